/- The texts Shown, Frame, one behind the other. -/
import Derived.Test.YtnaijahhogndjaaGreatDoorPG34
/- That the document's example is parsed as it says ('shown'). Conditions: the tables stand. -/
namespace Go.Proofs.YtnaijahhogndjaaGreatDoor
open Go.ChangeShapes Go.WideShapes Go.ChangeAt Go.RowKit

def S0 : List UInt8 := [60, 51, 52, 62, 49, 32, 45, 32, 104, 32, 97, 32, 45, 32, 45, 32, 45, 32, 104, 105]
theorem u1 : untilL [60] (S0, true) = ([], [51, 52, 62, 49, 32, 45, 32, 104, 32, 97, 32, 45, 32, 45, 32, 45, 32, 104, 105], true) := by decide
theorem u2 : untilL [62] ([51, 52, 62, 49, 32, 45, 32, 104, 32, 97, 32, 45, 32, 45, 32, 45, 32, 104, 105], true) = ([51, 52], [49, 32, 45, 32, 104, 32, 97, 32, 45, 32, 45, 32, 45, 32, 104, 105], true) := by decide
theorem u3 : untilL [32] ([49, 32, 45, 32, 104, 32, 97, 32, 45, 32, 45, 32, 45, 32, 104, 105], true) = ([49], [45, 32, 104, 32, 97, 32, 45, 32, 45, 32, 45, 32, 104, 105], true) := by decide
theorem t1 : toldL ([45, 32, 104, 32, 97, 32, 45, 32, 45, 32, 45, 32, 104, 105], true) = ([], [104, 32, 97, 32, 45, 32, 45, 32, 45, 32, 104, 105], true) := by decide
theorem t2 : toldL ([104, 32, 97, 32, 45, 32, 45, 32, 45, 32, 104, 105], true) = ([104], [97, 32, 45, 32, 45, 32, 45, 32, 104, 105], true) := by decide
theorem t3 : toldL ([97, 32, 45, 32, 45, 32, 45, 32, 104, 105], true) = ([97], [45, 32, 45, 32, 45, 32, 104, 105], true) := by decide
theorem t4 : toldL ([45, 32, 45, 32, 45, 32, 104, 105], true) = ([], [45, 32, 45, 32, 104, 105], true) := by decide
theorem t5 : toldL ([45, 32, 45, 32, 104, 105], true) = ([], [45, 32, 104, 105], true) := by decide
theorem right_hi : rightE ⟨2, 4, false, 0, bytes [104], bytes [97], bytes [], bytes [], [], bytes [104, 105]⟩ = 0 := by decide
theorem parse_shown (w : World) (hS : Std w) (hm : Max w) : Calls Tryz.prog 23 #[.string (bytes S0)] w (GoodAns 2 4 false 0 [104] [97] [] [] [104, 105] [] w) :=
  parse_good S0 _ _ _ _ _ _ _ _ [32, 104, 105] [51, 52] [] [104] [97] [] [] [104, 105] 4 2 0 false [] w hS hm (by decide) u1 u2 u3 t1 t2 t3 t4 t5
    (fun W _ _ => origin_34 W)
    (fun W _ _ => (moment_none W).mono fun e w' ⟨h1, h2⟩ => ⟨h1, h2 ▸ Below.refl _ _⟩)
    (fun W _ _ => (elements_none [32, 104, 105] W).mono fun e w' ⟨h1, h2⟩ => ⟨none, 0, h1, fun V _ => ElmsAt.nil V none 0, h2 ▸ Below.refl _ _⟩)
    (fun W _ _ => (behind_hi W).mono fun e w' ⟨h1, h2⟩ => ⟨h1, h2 ▸ Below.refl _ _⟩)
    ⟨by decide, fun e he => by cases he⟩ (by decide) right_hi
set_option maxHeartbeats 1000000 in
set_option maxRecDepth 100000 in
theorem shown_any (w : World) (hS : Std w) (hm : Max w) : Calls Tryz.prog 10 #[] w fun e w' => e = .returned (.bool true) ∧ Below w.heap.size w w' := by
  have H := Lib.hid (parse_shown w hS hm)
  have q1 : ((bytes [104]).toList == [104]) = true := by rw [Lib.toList_data]; rfl
  have q2 : ((bytes [97]).toList == [97]) = true := by rw [Lib.toList_data]; rfl
  have q3 : (bytes []).toList.isEmpty = true := by rw [Lib.toList_data]; rfl
  have q4 : ((bytes [104, 105]).toList == [104, 105]) = true := by rw [Lib.toList_data]; rfl
  go_enter Tryz.func10, Tryz.ntmps10
  go_wp2_with fail
  refine H.out.mono ?_
  rintro e w2 ⟨la, lc, rfl, hE, hB⟩
  clear H
  have hB2 := hB.alloc hB.size (.cells #[.int .i64 2, .int .i64 4, .bool false, .int .i64 0, .string (bytes [104]), .string (bytes [97]), .string (bytes []), .string (bytes []), .slice la 0 lc, .string (bytes [104, 105])] 24)
  go_wp2
  go_ret
  exact ⟨rfl, hB2⟩
end Go.Proofs.YtnaijahhogndjaaGreatDoor
/- A message among the arguments: opened out of the form's own reading; the listed variables, as the program's text lays them. -/
namespace Go.Proofs.YtnaijahhogndjaaGreatDoor
open Go.ChangeShapes Go.WideShapes Go.ChangeAt Go.RowKit

theorem cells2 : Tryz.prog.cellsOf 2 = 1 := by kernel_rfl
theorem cells3 : Tryz.prog.cellsOf 3 = 1 := by kernel_rfl
theorem cells4 : Tryz.prog.cellsOf 4 = 1 := by kernel_rfl
theorem cells9 : Tryz.prog.cellsOf 9 = 1 := by kernel_rfl
theorem cells22 : Tryz.prog.cellsOf 22 = 1 := by kernel_rfl
theorem cells24 : Tryz.prog.cellsOf 24 = 10 := by kernel_rfl
theorem cells50 : Tryz.prog.cellsOf 50 = 1 := by kernel_rfl
theorem cells52 : Tryz.prog.cellsOf 52 = 2 := by kernel_rfl
theorem cells54 : Tryz.prog.cellsOf 54 = 2 := by kernel_rfl
theorem bytes52 : Tryz.prog.bytesOf 52 = 40 := by kernel_rfl
theorem bytes54 : Tryz.prog.bytesOf 54 = 32 := by kernel_rfl
theorem reach_is : reachBytes = 140737488351232 := by decide
theorem choose_list {α : Type} {R : Nat → α → Prop} : ∀ n, (∀ i, i < n → ∃ x, R i x) → ∃ l : List α, l.length = n ∧ ∀ i x, l[i]? = some x → R i x
  | 0, _ => ⟨[], rfl, fun i x h => by simp at h⟩
  | n + 1, h => by
    obtain ⟨l, hl, hr⟩ := choose_list n (fun i hi => h i (by omega))
    obtain ⟨x, hx⟩ := h n (by omega)
    refine ⟨l ++ [x], by simp [hl], fun i y hy => ?_⟩
    rcases Nat.lt_or_ge i l.length with hi | hi
    · rw [List.getElem?_append_left hi] at hy
      exact hr i y hy
    · rw [List.getElem?_append_right hi] at hy
      have h0 : i - l.length = 0 := by
        rcases Nat.eq_zero_or_pos (i - l.length) with h | h
        · exact h
        · rw [List.getElem?_eq_none (by simp; omega)] at hy; cases hy
      rw [h0] at hy
      simp at hy
      subst hy
      have : i = n := by omega
      rw [this]; exact hx
section
set_option maxRecDepth 100000
variable {H : Type} {enc : TypeId × Value → H} {W : World}
theorem weights_in {e : TypeId} {l : List (DataW H)} {d : DataW H} {n : Nat} (h : d ∈ l) (hn : n ∈ d.weights Tryz.prog e) : n ∈ DataW.weightsAll Tryz.prog e l := by
  induction l with
  | nil => cases h
  | cons x l ih =>
    simp only [DataW.weightsAll, List.mem_append]
    rcases List.mem_cons.1 h with rfl | h
    · exact .inl hn
    · exact .inr (ih h)
theorem cells_two {a : Addr} {cs : List Value} {base : Nat} (h : W.cells? base a 2 = some cs) : ∃ c0 c1, cs = [c0, c1] ∧ W.cell? (a.add 0) = some c0 ∧ W.cell? (a.add 1) = some c1 := by
  obtain ⟨_, hl, hc⟩ := World.cells?_some h
  match cs, hl with
  | [c0, c1], _ => exact ⟨c0, c1, rfl, by simpa using hc 0 (by omega), by simpa using hc 1 (by omega)⟩
/-- A parameter. -/
theorem open_prm {fuel : Nat} {cs : List Value} {y : DataW H × List MemPlace} (h : DataW.trod enc Tryz.prog W 0 (fun _ => true) true fuel 54 cs = some y) :
    ∃ p : Prm, cs = [.string p.1, .string p.2] ∧ y.1 = .agg [.lit (.string p.1.data.toList), .lit (.string p.2.data.toList)] := by
  obtain ⟨xs, n, _, hx, hl, hlen, hg⟩ := DataW.trod_struct Tryz.underlying54 h
  rw [cells54] at hl
  have g0 := hg 0 _ rfl
  have g1 := hg 1 _ rfl
  match cs, hl, xs, hlen with
  | [c0, c1], _, [y0, y1], _ =>
    simp [cells9] at g0 g1
    obtain ⟨s0, e0, d0, _⟩ := DataW.trod_string Tryz.underlying9 g0
    obtain ⟨s1, e1, d1, _⟩ := DataW.trod_string Tryz.underlying9 g1
    simp at e0 e1
    exact ⟨(s0, s1), by rw [e0, e1], by rw [hx, d0, d1]; rfl⟩
theorem add_at (b o k : Nat) : (⟨b, o, none⟩ : Addr).add k = ⟨b, o + k, none⟩ := Go.WideShapes.add_plain ..
/-- A list of parameters. -/
theorem open_prms {fuel : Nat} {v : Value} {y : DataW H × List MemPlace} (h : DataW.trod enc Tryz.prog W 0 (fun _ => true) true fuel 50 [v] = some y) :
    ∃ ps, PrmsAt W v ps ∧ ((∀ n ∈ y.1.weights Tryz.prog 50, n ≤ reachBytes) → ps.length ≤ 17592186044416 ∧ ∀ p ∈ ps, p.1.size ≤ 140737488355328 ∧ p.2.size ≤ 140737488355328) := by
  rcases DataW.trod_slice Tryz.underlying50 h with ⟨hv, hy⟩ | ⟨a, len, cap, elems, rest, n, _, hv, hy, _, hlc, _, hel, hat, _, _⟩
  · simp only [List.cons.injEq, and_true] at hv
    subst hv
    exact ⟨[], PrmsAt.nil W none 0, fun _ => ⟨by decide, fun p hp => by cases hp⟩⟩
  · simp only [List.cons.injEq, and_true] at hv
    subst hv
    have hR : ∀ i, i < len → ∃ p : Prm, ∃ e, elems[i]? = some e ∧ e.1 = .agg [.lit (.string p.1.data.toList), .lit (.string p.2.data.toList)] ∧ W.cell? ((a.add (i * 2)).add 0) = some (.string p.1) ∧ W.cell? ((a.add (i * 2)).add 1) = some (.string p.2) := by
      intro i hi
      have hi' := hat i hi
      rw [cells54] at hi'
      have hlt : i < elems.length := by omega
      rw [List.getElem?_eq_getElem hlt] at hi'
      rw [Option.bind_eq_some_iff] at hi'
      obtain ⟨cs, hcs, ht⟩ := hi'
      obtain ⟨p, hp, he⟩ := open_prm ht
      obtain ⟨c0, c1, e0, k0, k1⟩ := cells_two hcs
      rw [hp] at e0
      simp only [List.cons.injEq, and_true] at e0
      obtain ⟨rfl, rfl⟩ := e0
      exact ⟨p, _, List.getElem?_eq_getElem hlt, he, k0, k1⟩
    obtain ⟨ps, hps, hr⟩ := choose_list len hR
    refine ⟨ps, ⟨some a, cap, by rw [hps], fun h0 => ?_⟩, fun hw => ?_⟩
    · obtain ⟨b, off, spot⟩ := a
      obtain ⟨p0, hp0⟩ : ∃ p0, ps[0]? = some p0 := ⟨_, List.getElem?_eq_getElem h0⟩
      obtain ⟨_, _, _, k0, _⟩ := hr 0 p0 hp0
      obtain rfl : spot = none := by simpa [Addr.add] using World.cell?_spot k0
      refine ⟨b, off, rfl, ?_, fun j p hp => ?_⟩
      · rw [add_at, add_at] at k0
        exact World.block_lt_of_cell? W _ k0
      · obtain ⟨_, _, _, k0, k1⟩ := hr j p hp
        rw [add_at, add_at] at k0 k1
        exact ⟨by rw [show off + 2 * j = off + j * 2 + 0 by omega]; exact k0, by rw [show off + 2 * j + 1 = off + j * 2 + 1 by omega]; exact k1⟩
    · rw [hy] at hw
      simp only [DataW.weights, Tryz.underlying50, bytes54, List.mem_cons, List.mem_append, reach_is] at hw
      have h1 := hw _ (.inl rfl)
      simp only [List.length_map] at h1
      refine ⟨by omega, fun p hp => ?_⟩
      obtain ⟨i, hi, hpi⟩ := List.getElem_of_mem hp
      obtain ⟨e, he, hd, _⟩ := hr i p (by rw [List.getElem?_eq_getElem hi, hpi])
      have hem : e.1 ∈ elems.map (·.1) := List.mem_map.2 ⟨e, List.mem_of_getElem? he, rfl⟩
      have w1 : p.1.data.toList.length ∈ e.1.weights Tryz.prog 54 := by rw [hd]; simp [DataW.weights, Tryz.underlying54, DataW.weightsEach]
      have w2 : p.2.data.toList.length ∈ e.1.weights Tryz.prog 54 := by rw [hd]; simp [DataW.weights, Tryz.underlying54, DataW.weightsEach]
      have q1 := hw _ (.inr (.inl (weights_in hem w1)))
      have q2 := hw _ (.inr (.inl (weights_in hem w2)))
      rw [list_size] at q1 q2
      omega
/-- An element, with a reading of its list. -/
theorem open_elm {fuel : Nat} {cs : List Value} {y : DataW H × List MemPlace} (h : DataW.trod enc Tryz.prog W 0 (fun _ => true) true fuel 52 cs = some y) :
    ∃ (e : Elm) (lv : Value) (d : DataW H), cs = [.string e.1, lv] ∧ y.1 = .agg [.lit (.string e.1.data.toList), d] ∧ PrmsAt W lv e.2 ∧
      ((∀ n ∈ d.weights Tryz.prog 50, n ≤ reachBytes) → e.2.length ≤ 17592186044416 ∧ ∀ p ∈ e.2, p.1.size ≤ 140737488355328 ∧ p.2.size ≤ 140737488355328) := by
  obtain ⟨xs, n, _, hx, hl, hlen, hg⟩ := DataW.trod_struct Tryz.underlying52 h
  rw [cells52] at hl
  have g0 := hg 0 _ rfl
  have g1 := hg 1 _ rfl
  match cs, hl, xs, hlen with
  | [c0, c1], _, [y0, y1], _ =>
    simp [cells9, cells50] at g0 g1
    obtain ⟨s0, e0, d0, _⟩ := DataW.trod_string Tryz.underlying9 g0
    simp at e0
    obtain ⟨ps, hps, hb⟩ := open_prms g1
    exact ⟨(s0, ps), c1, y1.1, by rw [e0], by rw [hx, d0]; rfl, hps, hb⟩
/-- A list of elements. -/
theorem open_elms {fuel : Nat} {v : Value} {y : DataW H × List MemPlace} (h : DataW.trod enc Tryz.prog W 0 (fun _ => true) true fuel 22 [v] = some y) :
    ∃ es, ElmsAt W v es ∧ (∃ la lc, v = .slice la es.length lc ∧ es.length ≤ lc ∧ lc ≤ 9223372036854775807) ∧ ((∀ n ∈ y.1.weights Tryz.prog 22, n ≤ reachBytes) → ElmsFit es) := by
  rcases DataW.trod_slice Tryz.underlying22 h with ⟨hv, hy⟩ | ⟨a, len, cap, elems, rest, n, _, hv, hy, _, hlc, hmx, hel, hat, _, _⟩
  · simp only [List.cons.injEq, and_true] at hv
    subst hv
    exact ⟨[], ElmsAt.nil W none 0, ⟨none, 0, rfl, by decide, by decide⟩, fun _ => ⟨by decide, fun p hp => by cases hp⟩⟩
  · simp only [List.cons.injEq, and_true] at hv
    subst hv
    have hR : ∀ i, i < len → ∃ e : Elm, ∃ (x : DataW H × List MemPlace) (lv : Value) (d : DataW H), elems[i]? = some x ∧ x.1 = .agg [.lit (.string e.1.data.toList), d] ∧ PrmsAt W lv e.2 ∧
        ((∀ n ∈ d.weights Tryz.prog 50, n ≤ reachBytes) → e.2.length ≤ 17592186044416 ∧ ∀ p ∈ e.2, p.1.size ≤ 140737488355328 ∧ p.2.size ≤ 140737488355328) ∧
        W.cell? ((a.add (i * 2)).add 0) = some (.string e.1) ∧ W.cell? ((a.add (i * 2)).add 1) = some lv := by
      intro i hi
      have hi' := hat i hi
      rw [cells52] at hi'
      have hlt : i < elems.length := by omega
      rw [List.getElem?_eq_getElem hlt] at hi'
      rw [Option.bind_eq_some_iff] at hi'
      obtain ⟨cs, hcs, ht⟩ := hi'
      obtain ⟨e, lv, d, hp, he, hps, hb⟩ := open_elm ht
      obtain ⟨c0, c1, e0, k0, k1⟩ := cells_two hcs
      rw [hp] at e0
      simp only [List.cons.injEq, and_true] at e0
      obtain ⟨rfl, rfl⟩ := e0
      exact ⟨e, _, lv, d, List.getElem?_eq_getElem hlt, he, hps, hb, k0, k1⟩
    obtain ⟨es, hes, hr⟩ := choose_list len hR
    refine ⟨es, ⟨some a, cap, by rw [hes], fun h0 => ?_⟩, ⟨some a, cap, by rw [hes], by omega, by unfold maxLen at hmx; omega⟩, fun hw => ?_⟩
    · obtain ⟨b, off, spot⟩ := a
      obtain ⟨p0, hp0⟩ : ∃ p0, es[0]? = some p0 := ⟨_, List.getElem?_eq_getElem h0⟩
      obtain ⟨_, _, _, _, _, _, _, k0, _⟩ := hr 0 p0 hp0
      obtain rfl : spot = none := by simpa [Addr.add] using World.cell?_spot k0
      refine ⟨b, off, rfl, ?_, fun j e he => ?_⟩
      · rw [add_at, add_at] at k0
        exact World.block_lt_of_cell? W _ k0
      · obtain ⟨_, lv, _, _, _, hps, _, k0, k1⟩ := hr j e he
        rw [add_at, add_at] at k0 k1
        exact ⟨lv, by rw [show off + 2 * j = off + j * 2 + 0 by omega]; exact k0, by rw [show off + 2 * j + 1 = off + j * 2 + 1 by omega]; exact k1, hps⟩
    · rw [hy] at hw
      simp only [DataW.weights, Tryz.underlying22, bytes52, List.mem_cons, List.mem_append] at hw
      have h1 := hw _ (.inl rfl)
      rw [reach_is] at h1
      simp only [List.length_map] at h1
      refine ⟨by omega, fun e he => ?_⟩
      obtain ⟨i, hi, hpi⟩ := List.getElem_of_mem he
      obtain ⟨x, lv, d, hx, hd, _, hb, _, _⟩ := hr i e (by rw [List.getElem?_eq_getElem hi, hpi])
      have hem : x.1 ∈ elems.map (·.1) := List.mem_map.2 ⟨x, List.mem_of_getElem? hx, rfl⟩
      have w1 : e.1.data.toList.length ∈ x.1.weights Tryz.prog 52 := by rw [hd]; simp [DataW.weights, Tryz.underlying52, DataW.weightsEach]
      have q1 := hw _ (.inr (.inl (weights_in hem w1)))
      rw [list_size, reach_is] at q1
      have q2 := hb (fun n hn => hw _ (.inr (.inl (weights_in hem (by rw [hd]; simp [DataW.weights, Tryz.underlying52, DataW.weightsEach, hn])))))
      exact ⟨by omega, q2.1, q2.2⟩
/-- A message. -/
theorem open_ev {r : Reach} {b0 : Nat} {v : Value} {d : DataW H} {p : List MemPlace} (hv : Value.okWide Tryz.prog W r b0 24 v) (h : DataW.Trod enc Tryz.prog W 0 (fun _ => true) true 24 v d p) :
    ∃ (e : Ev) (dv : Value), v = e.val dv ∧ (∃ la lc, dv = .slice la e.data.length lc ∧ e.data.length ≤ lc ∧ lc ≤ 9223372036854775807) ∧ ((∀ n ∈ d.weights Tryz.prog 24, n ≤ reachBytes) → e.In W dv) := by
  obtain ⟨cs, rfl, hsz⟩ := okWide_struct Tryz.underlying24 hv
  obtain ⟨l⟩ := cs
  match l, hsz.trans cells24 with
  | [c0, c1, c2, c3, c4, c5, c6, c7, c8, c9], _ =>
    obtain ⟨fuel, hf⟩ := h
    obtain ⟨xs, n, _, hx, _, hlen, hg⟩ := DataW.trod_struct Tryz.underlying24 hf
    have g0 := hg 0 _ rfl
    have g1 := hg 1 _ rfl
    have g2 := hg 2 _ rfl
    have g3 := hg 3 _ rfl
    have g4 := hg 4 _ rfl
    have g5 := hg 5 _ rfl
    have g6 := hg 6 _ rfl
    have g7 := hg 7 _ rfl
    have g8 := hg 8 _ rfl
    have g9 := hg 9 _ rfl
    match xs, hlen with
    | [y0, y1, y2, y3, y4, y5, y6, y7, y8, y9], _ =>
      simp [Value.cells, cells2, cells3, cells4, cells9, cells22] at g0 g1 g2 g3 g4 g5 g6 g7 g8 g9
      obtain ⟨a0, e0, _, _⟩ := DataW.trod_int Tryz.underlying3 g0
      obtain ⟨a1, e1, _, _⟩ := DataW.trod_int Tryz.underlying3 g1
      obtain ⟨a2, e2, _⟩ := DataW.trod_bool Tryz.underlying4 g2
      obtain ⟨a3, e3, _, _⟩ := DataW.trod_int Tryz.underlying2 g3
      obtain ⟨a4, e4, d4, _⟩ := DataW.trod_string Tryz.underlying9 g4
      obtain ⟨a5, e5, d5, _⟩ := DataW.trod_string Tryz.underlying9 g5
      obtain ⟨a6, e6, d6, _⟩ := DataW.trod_string Tryz.underlying9 g6
      obtain ⟨a7, e7, d7, _⟩ := DataW.trod_string Tryz.underlying9 g7
      obtain ⟨es, hes, hsh, hb⟩ := open_elms g8
      obtain ⟨a9, e9, d9, _⟩ := DataW.trod_string Tryz.underlying9 g9
      simp at e0 e1 e2 e3 e4 e5 e6 e7 e9
      subst e0 e1 e2 e3 e4 e5 e6 e7 e9
      refine ⟨⟨a0, a1, a2, a3, a4, a5, a6, a7, es, a9⟩, c8, rfl, hsh, fun hw => ?_⟩
      have hd : d = .agg [y0.1, y1.1, y2.1, y3.1, y4.1, y5.1, y6.1, y7.1, y8.1, y9.1] := by simpa using congrArg Prod.fst hx
      rw [hd, d4, d5, d6, d7, d9] at hw
      simp only [DataW.weights, Tryz.underlying24, DataW.weightsEach, List.map_cons, List.map_nil, List.mem_append, List.mem_cons, List.not_mem_nil, or_false, list_size] at hw
      have hr := reach_is
      refine ⟨hes, hb (fun n hn => hw n (by simp [hn])), ?_, ?_, ?_, ?_, ?_⟩
      · show a4.size ≤ 140737488355328
        have := hw a4.size (by simp); omega
      · show a5.size ≤ 140737488355328
        have := hw a5.size (by simp); omega
      · show a6.size ≤ 140737488355328
        have := hw a6.size (by simp); omega
      · show a7.size ≤ 140737488355328
        have := hw a7.size (by simp); omega
      · show a9.size ≤ 140737488355328
        have := hw a9.size (by simp); omega
end
end Go.Proofs.YtnaijahhogndjaaGreatDoor
