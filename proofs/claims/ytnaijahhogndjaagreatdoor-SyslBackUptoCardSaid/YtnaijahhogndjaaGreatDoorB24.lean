/- The texts FrameBulk, Met, one behind the other. -/
import Derived.Test.YtnaijahhogndjaaGreatDoorB23
import Derived.Test.YtnaijahhogndjaaGreatDoorB11
import Derived.Test.YtnaijahhogndjaaGreatDoorRows
import Derived.Test.YtnaijahhogndjaaGreatDoorCards
import Derived.Test.YtnaijahhogndjaaGreatDoorTie
import Derived.ProofKit
import Derived.LaidMore
import Derived.OpenShut
import Derived.ShutString
import Derived.ChangeOld
import Derived.Below
import Derived.Lib.SmallJoins
import Derived.Lib.LaidTab
import Derived.Lib.LaidU8T
import Derived.Stop.Joined
import Derived.SevenTiedAt
import Derived.PinnedBridge
import Derived.Lay
import Derived.LaidOnce
import Derived.HandedShaped
import Derived.Stop.LaidErr
/- A message among the arguments, with how much its reading holds. -/
namespace Go.Proofs.YtnaijahhogndjaaGreatDoor
open Go.ChangeShapes Go.WideShapes Go.ChangeAt Go.RowKit

section
set_option maxRecDepth 100000
variable {H : Type} {enc : TypeId × Value → H} {W : World}
theorem flat_bulk {α : Type} (g : α → List UInt8) : ∀ (ps : List α) (ds : List (DataW H)), (∀ (i : Nat) p, ps[i]? = some p → ∃ d, ds[i]? = some d ∧ (g p).length ≤ 2 * Rows.uptoBulk d) → (ps.flatMap g).length ≤ 2 * Rows.uptoBulkAll ds
  | [], _, _ => by simp
  | p :: ps, [], h => by obtain ⟨d, hd, _⟩ := h 0 p rfl; cases hd
  | p :: ps, d :: ds, h => by
    obtain ⟨d', hd, hl⟩ := h 0 p rfl
    have e : d = d' := by simpa using hd
    subst e
    have ih := flat_bulk g ps ds (fun i q hq => by
      obtain ⟨d2, h2, h3⟩ := h (i + 1) q (by simpa using hq)
      exact ⟨d2, by simpa using h2, h3⟩)
    simp only [List.flatMap_cons, List.length_append, Rows.uptoBulkAll]
    omega
theorem prm_bulk (p : Prm) : (prmT p).length ≤ 2 * Rows.uptoBulk (DataW.agg [DataW.lit (H := H) (.string p.1.data.toList), .lit (.string p.2.data.toList)]) := by
  have h := (valueL_length p.2.data.toList).2
  simp only [Rows.uptoBulk, Rows.uptoBulkAll, prmT, List.length_cons, List.length_append, List.length_nil]
  omega
theorem elm_bulk (e : Elm) (d : DataW H) (h : (prmsT e.2).length ≤ 2 * Rows.uptoBulk d) : (elmT e).length ≤ 2 * Rows.uptoBulk (DataW.agg [DataW.lit (H := H) (.string e.1.data.toList), d]) := by
  simp only [Rows.uptoBulk, Rows.uptoBulkAll, elmT, List.length_cons, List.length_append, List.length_nil]
  omega
/-- A list of parameters. -/
theorem open_prmsB {fuel : Nat} {v : Value} {y : DataW H × List MemPlace} (h : DataW.trod enc Tryz.prog W 0 (fun _ => true) true fuel 50 [v] = some y) :
    ∃ ps, PrmsAt W v ps ∧ (prmsT ps).length ≤ 2 * Rows.uptoBulk y.1 ∧ ((∀ n ∈ y.1.weights Tryz.prog 50, n ≤ reachBytes) → ps.length ≤ 17592186044416 ∧ ∀ p ∈ ps, p.1.size ≤ 140737488355328 ∧ p.2.size ≤ 140737488355328) := by
  rcases DataW.trod_slice Tryz.underlying50 h with ⟨hv, hy⟩ | ⟨a, len, cap, elems, rest, n, _, hv, hy, _, hlc, _, hel, hat, _, _⟩
  · simp only [List.cons.injEq, and_true] at hv
    subst hv
    exact ⟨[], PrmsAt.nil W none 0, Nat.zero_le _, fun _ => ⟨by decide, fun p hp => by cases hp⟩⟩
  · simp only [List.cons.injEq, and_true] at hv
    subst hv
    have hR : ∀ i, i < len → ∃ p : Prm, ∃ e, elems[i]? = some e ∧ e.1 = .agg [.lit (.string p.1.data.toList), .lit (.string p.2.data.toList)] ∧ W.cell? ((a.add (i * 2)).add 0) = some (.string p.1) ∧ W.cell? ((a.add (i * 2)).add 1) = some (.string p.2) := by
      intro i hi
      have hi' := hat i hi
      rw [cells54] at hi'
      have hlt : i < elems.length := by omega
      rw [List.getElem?_eq_getElem hlt] at hi'
      rw [Option.bind_eq_some_iff] at hi'
      obtain ⟨cs, hcs, ht⟩ := hi'
      obtain ⟨p, hp, he⟩ := open_prm ht
      obtain ⟨c0, c1, e0, k0, k1⟩ := cells_two hcs
      rw [hp] at e0
      simp only [List.cons.injEq, and_true] at e0
      obtain ⟨rfl, rfl⟩ := e0
      exact ⟨p, _, List.getElem?_eq_getElem hlt, he, k0, k1⟩
    obtain ⟨ps, hps, hr⟩ := choose_list len hR
    refine ⟨ps, ⟨some a, cap, by rw [hps], fun h0 => ?_⟩, ?_, fun hw => ?_⟩
    rotate_left
    · rw [hy]
      have hf := flat_bulk (H := H) prmT ps (elems.map (·.1)) (fun i p hp => by
        obtain ⟨e, he, hd, _⟩ := hr i p hp
        exact ⟨e.1, by rw [List.getElem?_map, he]; rfl, by rw [hd]; exact prm_bulk p⟩)
      simp only [Rows.uptoBulk]
      unfold prmsT
      omega
    rotate_left
    · obtain ⟨b, off, spot⟩ := a
      obtain ⟨p0, hp0⟩ : ∃ p0, ps[0]? = some p0 := ⟨_, List.getElem?_eq_getElem h0⟩
      obtain ⟨_, _, _, k0, _⟩ := hr 0 p0 hp0
      obtain rfl : spot = none := by simpa [Addr.add] using World.cell?_spot k0
      refine ⟨b, off, rfl, ?_, fun j p hp => ?_⟩
      · rw [add_at, add_at] at k0
        exact World.block_lt_of_cell? W _ k0
      · obtain ⟨_, _, _, k0, k1⟩ := hr j p hp
        rw [add_at, add_at] at k0 k1
        exact ⟨by rw [show off + 2 * j = off + j * 2 + 0 by omega]; exact k0, by rw [show off + 2 * j + 1 = off + j * 2 + 1 by omega]; exact k1⟩
    · rw [hy] at hw
      simp only [DataW.weights, Tryz.underlying50, bytes54, List.mem_cons, List.mem_append, reach_is] at hw
      have h1 := hw _ (.inl rfl)
      simp only [List.length_map] at h1
      refine ⟨by omega, fun p hp => ?_⟩
      obtain ⟨i, hi, hpi⟩ := List.getElem_of_mem hp
      obtain ⟨e, he, hd, _⟩ := hr i p (by rw [List.getElem?_eq_getElem hi, hpi])
      have hem : e.1 ∈ elems.map (·.1) := List.mem_map.2 ⟨e, List.mem_of_getElem? he, rfl⟩
      have w1 : p.1.data.toList.length ∈ e.1.weights Tryz.prog 54 := by rw [hd]; simp [DataW.weights, Tryz.underlying54, DataW.weightsEach]
      have w2 : p.2.data.toList.length ∈ e.1.weights Tryz.prog 54 := by rw [hd]; simp [DataW.weights, Tryz.underlying54, DataW.weightsEach]
      have q1 := hw _ (.inr (.inl (weights_in hem w1)))
      have q2 := hw _ (.inr (.inl (weights_in hem w2)))
      rw [list_size] at q1 q2
      omega
/-- An element, with a reading of its list. -/
theorem open_elmB {fuel : Nat} {cs : List Value} {y : DataW H × List MemPlace} (h : DataW.trod enc Tryz.prog W 0 (fun _ => true) true fuel 52 cs = some y) :
    ∃ (e : Elm) (lv : Value) (d : DataW H), cs = [.string e.1, lv] ∧ y.1 = .agg [.lit (.string e.1.data.toList), d] ∧ PrmsAt W lv e.2 ∧ (prmsT e.2).length ≤ 2 * Rows.uptoBulk d ∧
      ((∀ n ∈ d.weights Tryz.prog 50, n ≤ reachBytes) → e.2.length ≤ 17592186044416 ∧ ∀ p ∈ e.2, p.1.size ≤ 140737488355328 ∧ p.2.size ≤ 140737488355328) := by
  obtain ⟨xs, n, _, hx, hl, hlen, hg⟩ := DataW.trod_struct Tryz.underlying52 h
  rw [cells52] at hl
  have g0 := hg 0 _ rfl
  have g1 := hg 1 _ rfl
  match cs, hl, xs, hlen with
  | [c0, c1], _, [y0, y1], _ =>
    simp [cells9, cells50] at g0 g1
    obtain ⟨s0, e0, d0, _⟩ := DataW.trod_string Tryz.underlying9 g0
    simp at e0
    obtain ⟨ps, hps, hbk, hb⟩ := open_prmsB g1
    exact ⟨(s0, ps), c1, y1.1, by rw [e0], by rw [hx, d0]; rfl, hps, hbk, hb⟩
/-- A list of elements. -/
theorem open_elmsB {fuel : Nat} {v : Value} {y : DataW H × List MemPlace} (h : DataW.trod enc Tryz.prog W 0 (fun _ => true) true fuel 22 [v] = some y) :
    ∃ es, ElmsAt W v es ∧ (∃ la lc, v = .slice la es.length lc ∧ es.length ≤ lc ∧ lc ≤ 9223372036854775807) ∧ (elmsT es).length ≤ 2 * Rows.uptoBulk y.1 ∧ ((∀ n ∈ y.1.weights Tryz.prog 22, n ≤ reachBytes) → ElmsFit es) := by
  rcases DataW.trod_slice Tryz.underlying22 h with ⟨hv, hy⟩ | ⟨a, len, cap, elems, rest, n, _, hv, hy, _, hlc, hmx, hel, hat, _, _⟩
  · simp only [List.cons.injEq, and_true] at hv
    subst hv
    exact ⟨[], ElmsAt.nil W none 0, ⟨none, 0, rfl, by decide, by decide⟩, Nat.zero_le _, fun _ => ⟨by decide, fun p hp => by cases hp⟩⟩
  · simp only [List.cons.injEq, and_true] at hv
    subst hv
    have hR : ∀ i, i < len → ∃ e : Elm, ∃ (x : DataW H × List MemPlace) (lv : Value) (d : DataW H), elems[i]? = some x ∧ x.1 = .agg [.lit (.string e.1.data.toList), d] ∧ PrmsAt W lv e.2 ∧ (prmsT e.2).length ≤ 2 * Rows.uptoBulk d ∧
        ((∀ n ∈ d.weights Tryz.prog 50, n ≤ reachBytes) → e.2.length ≤ 17592186044416 ∧ ∀ p ∈ e.2, p.1.size ≤ 140737488355328 ∧ p.2.size ≤ 140737488355328) ∧
        W.cell? ((a.add (i * 2)).add 0) = some (.string e.1) ∧ W.cell? ((a.add (i * 2)).add 1) = some lv := by
      intro i hi
      have hi' := hat i hi
      rw [cells52] at hi'
      have hlt : i < elems.length := by omega
      rw [List.getElem?_eq_getElem hlt] at hi'
      rw [Option.bind_eq_some_iff] at hi'
      obtain ⟨cs, hcs, ht⟩ := hi'
      obtain ⟨e, lv, d, hp, he, hps, hbk, hb⟩ := open_elmB ht
      obtain ⟨c0, c1, e0, k0, k1⟩ := cells_two hcs
      rw [hp] at e0
      simp only [List.cons.injEq, and_true] at e0
      obtain ⟨rfl, rfl⟩ := e0
      exact ⟨e, _, lv, d, List.getElem?_eq_getElem hlt, he, hps, hbk, hb, k0, k1⟩
    obtain ⟨es, hes, hr⟩ := choose_list len hR
    refine ⟨es, ⟨some a, cap, by rw [hes], fun h0 => ?_⟩, ⟨some a, cap, by rw [hes], by omega, by unfold maxLen at hmx; omega⟩, ?_, fun hw => ?_⟩
    rotate_left
    · rw [hy]
      have hf := flat_bulk (H := H) elmT es (elems.map (·.1)) (fun i e he => by
        obtain ⟨x, lv, d, hx, hd, _, hbk, _⟩ := hr i e he
        exact ⟨x.1, by rw [List.getElem?_map, hx]; rfl, by rw [hd]; exact elm_bulk e d hbk⟩)
      simp only [Rows.uptoBulk]
      unfold elmsT
      omega
    rotate_left
    · obtain ⟨b, off, spot⟩ := a
      obtain ⟨p0, hp0⟩ : ∃ p0, es[0]? = some p0 := ⟨_, List.getElem?_eq_getElem h0⟩
      obtain ⟨_, _, _, _, _, _, _, _, k0, _⟩ := hr 0 p0 hp0
      obtain rfl : spot = none := by simpa [Addr.add] using World.cell?_spot k0
      refine ⟨b, off, rfl, ?_, fun j e he => ?_⟩
      · rw [add_at, add_at] at k0
        exact World.block_lt_of_cell? W _ k0
      · obtain ⟨_, lv, _, _, _, hps, _, _, k0, k1⟩ := hr j e he
        rw [add_at, add_at] at k0 k1
        exact ⟨lv, by rw [show off + 2 * j = off + j * 2 + 0 by omega]; exact k0, by rw [show off + 2 * j + 1 = off + j * 2 + 1 by omega]; exact k1, hps⟩
    · rw [hy] at hw
      simp only [DataW.weights, Tryz.underlying22, bytes52, List.mem_cons, List.mem_append] at hw
      have h1 := hw _ (.inl rfl)
      rw [reach_is] at h1
      simp only [List.length_map] at h1
      refine ⟨by omega, fun e he => ?_⟩
      obtain ⟨i, hi, hpi⟩ := List.getElem_of_mem he
      obtain ⟨x, lv, d, hx, hd, _, _, hb, _, _⟩ := hr i e (by rw [List.getElem?_eq_getElem hi, hpi])
      have hem : x.1 ∈ elems.map (·.1) := List.mem_map.2 ⟨x, List.mem_of_getElem? hx, rfl⟩
      have w1 : e.1.data.toList.length ∈ x.1.weights Tryz.prog 52 := by rw [hd]; simp [DataW.weights, Tryz.underlying52, DataW.weightsEach]
      have q1 := hw _ (.inr (.inl (weights_in hem w1)))
      rw [list_size, reach_is] at q1
      have q2 := hb (fun n hn => hw _ (.inr (.inl (weights_in hem (by rw [hd]; simp [DataW.weights, Tryz.underlying52, DataW.weightsEach, hn])))))
      exact ⟨by omega, q2.1, q2.2⟩
/-- A message. -/
theorem open_evB {r : Reach} {b0 : Nat} {v : Value} {d : DataW H} {p : List MemPlace} (hv : Value.okWide Tryz.prog W r b0 24 v) (h : DataW.Trod enc Tryz.prog W 0 (fun _ => true) true 24 v d p) :
    ∃ (e : Ev) (dv : Value), v = e.val dv ∧ (∃ la lc, dv = .slice la e.data.length lc ∧ e.data.length ≤ lc ∧ lc ≤ 9223372036854775807) ∧ ((elmsT e.data).length ≤ 2 * Rows.uptoBulk d ∧ e.text.size ≤ Rows.uptoBulk d) ∧ ((∀ n ∈ d.weights Tryz.prog 24, n ≤ reachBytes) → e.In W dv) := by
  obtain ⟨cs, rfl, hsz⟩ := okWide_struct Tryz.underlying24 hv
  obtain ⟨l⟩ := cs
  match l, hsz.trans cells24 with
  | [c0, c1, c2, c3, c4, c5, c6, c7, c8, c9], _ =>
    obtain ⟨fuel, hf⟩ := h
    obtain ⟨xs, n, _, hx, _, hlen, hg⟩ := DataW.trod_struct Tryz.underlying24 hf
    have g0 := hg 0 _ rfl
    have g1 := hg 1 _ rfl
    have g2 := hg 2 _ rfl
    have g3 := hg 3 _ rfl
    have g4 := hg 4 _ rfl
    have g5 := hg 5 _ rfl
    have g6 := hg 6 _ rfl
    have g7 := hg 7 _ rfl
    have g8 := hg 8 _ rfl
    have g9 := hg 9 _ rfl
    match xs, hlen with
    | [y0, y1, y2, y3, y4, y5, y6, y7, y8, y9], _ =>
      simp [Value.cells, cells2, cells3, cells4, cells9, cells22] at g0 g1 g2 g3 g4 g5 g6 g7 g8 g9
      obtain ⟨a0, e0, _, _⟩ := DataW.trod_int Tryz.underlying3 g0
      obtain ⟨a1, e1, _, _⟩ := DataW.trod_int Tryz.underlying3 g1
      obtain ⟨a2, e2, _⟩ := DataW.trod_bool Tryz.underlying4 g2
      obtain ⟨a3, e3, _, _⟩ := DataW.trod_int Tryz.underlying2 g3
      obtain ⟨a4, e4, d4, _⟩ := DataW.trod_string Tryz.underlying9 g4
      obtain ⟨a5, e5, d5, _⟩ := DataW.trod_string Tryz.underlying9 g5
      obtain ⟨a6, e6, d6, _⟩ := DataW.trod_string Tryz.underlying9 g6
      obtain ⟨a7, e7, d7, _⟩ := DataW.trod_string Tryz.underlying9 g7
      obtain ⟨es, hes, hsh, hbk, hb⟩ := open_elmsB g8
      obtain ⟨a9, e9, d9, _⟩ := DataW.trod_string Tryz.underlying9 g9
      simp at e0 e1 e2 e3 e4 e5 e6 e7 e9
      subst e0 e1 e2 e3 e4 e5 e6 e7 e9
      have hd : d = .agg [y0.1, y1.1, y2.1, y3.1, y4.1, y5.1, y6.1, y7.1, y8.1, y9.1] := by simpa using congrArg Prod.fst hx
      refine ⟨⟨a0, a1, a2, a3, a4, a5, a6, a7, es, a9⟩, c8, rfl, hsh, ?_, fun hw => ?_⟩
      · rw [hd, d9]
        simp only [Rows.uptoBulk, Rows.uptoBulkAll, list_size]
        show (elmsT es).length ≤ _ ∧ a9.size ≤ _
        omega
      rw [hd, d4, d5, d6, d7, d9] at hw
      simp only [DataW.weights, Tryz.underlying24, DataW.weightsEach, List.map_cons, List.map_nil, List.mem_append, List.mem_cons, List.not_mem_nil, or_false, list_size] at hw
      have hr := reach_is
      refine ⟨hes, hb (fun n hn => hw n (by simp [hn])), ?_, ?_, ?_, ?_, ?_⟩
      · show a4.size ≤ 140737488355328
        have := hw a4.size (by simp); omega
      · show a5.size ≤ 140737488355328
        have := hw a5.size (by simp); omega
      · show a6.size ≤ 140737488355328
        have := hw a6.size (by simp); omega
      · show a7.size ≤ 140737488355328
        have := hw a7.size (by simp); omega
      · show a9.size ≤ 140737488355328
        have := hw a9.size (by simp); omega
end
end Go.Proofs.YtnaijahhogndjaaGreatDoor
/- The listed variables out of the condition: the tables stand. A heap in which they lie so meets it. -/
namespace Go.Proofs.YtnaijahhogndjaaGreatDoor
open Go.Joins Go.Deep Go.ChangeShapes Go.WideShapes Go.ChangeAt Go.RowKit Go.Lib

def laid8 : List (String × DataW Unit) := [("math/bits.deBruijn32tab", Rows.laid_math_bits_deBruijn32tab), ("math/bits.deBruijn64tab", Rows.laid_math_bits_deBruijn64tab), ("internal/strconv.uint64pow10", Rows.laid_internal_strconv_uint64pow10), ("unicode/utf8.acceptRanges", Rows.laid_unicode_utf8_acceptRanges), ("strconv.ErrRange", Rows.laid_strconv_ErrRange), ("strconv.ErrSyntax", Rows.laid_strconv_ErrSyntax), ("tabulary/cal.lengths", Rows.laid_tabulary_cal_lengths), ("unicode/utf8.first", Rows.laid_unicode_utf8_first)]
theorem own : ownKnob Tryz.prog.godebug = none := by kernel_rfl
theorem laidOut : laidOutB Tryz.prog = true := by kernel_rfl
theorem gLen : Tryz.prog.globalNamed "tabulary/cal.lengths" = some 4 := by kernel_rfl
theorem plain8 {W : World} (h : laidMetH Tryz.prog laid8 W) : laidMet Tryz.prog laid8 W := by
  rw [MakeChecks.laidMetH_plain _ _ _ (by kernel_rfl)] at h
  exact h
theorem accept_eq : (Rows.laid_unicode_utf8_acceptRanges : DataW Unit) = acceptData := by kernel_rfl
theorem first_eq : (Rows.laid_unicode_utf8_first : DataW Unit) = firstData := Pinned.utf8First_eq
theorem utf8_of_laid {W : World} (h : laidMet Tryz.prog laid8 W) : Lib.Utf8Tabs 0 1 W :=
  utf8Tabs_of_readsT (U8Types.of196 Tryz.lays196) ⟨by kernel_rfl, by kernel_rfl, by kernel_rfl, by kernel_rfl, by kernel_rfl, by kernel_rfl, by kernel_rfl⟩
    (first_eq ▸ Lib.laidMet.reads h (.tail _ (.tail _ (.tail _ (.tail _ (.tail _ (.tail _ (.tail _ (.head _))))))))) (accept_eq ▸ Lib.laidMet.reads h (.tail _ (.tail _ (.tail _ (.head _)))))
theorem met8 (os : Os) (args : Array Value) : laidMetH Tryz.prog laid8 ((World.laidAll Tryz.prog os laid8).forCall (fun _ _ => 0) ⟨#[], args, []⟩).memory := by
  rw [MakeChecks.laidMetH_plain _ _ _ (by kernel_rfl)]
  exact laidMet_laidAll _ (by kernel_rfl) (by kernel_rfl)
theorem tLen : (Tryz.prog.globals[4]?).map (·.type) = some 179 := by kernel_rfl
theorem cells179 : Tryz.prog.cellsOf 179 = 12 := by kernel_rfl
theorem tab_of_is {W : World} (h : Lib.TabIs Tryz.prog W "tabulary/cal.lengths" .i64 Cal.lens) : Cal.Tab W := by
  have hc : ∀ i : Nat, i < 12 → W.cell? ⟨4, i, none⟩ = some (.int .i64 (Cal.lens.getD i 0)) := fun i hi => h.cell gLen i hi
  exact ⟨World.block_lt_of_cell? W _ (hc 0 (by omega)), hc⟩
theorem std_of_laid {W : World} (h0 : laidMetH Tryz.prog laid8 W) : Std W := by
  have h := plain8 h0
  have h6 : laidMet Tryz.prog [("tabulary/cal.lengths", Rows.laid_tabulary_cal_lengths), ("unicode/utf8.first", Rows.laid_unicode_utf8_first)] W :=
    laidMet.tail (laidMet.tail (laidMet.tail (laidMet.tail (laidMet.tail (laidMet.tail h)))))
  exact ⟨tab_of_is (Lib.tabIs_of_head gLen tLen Tryz.underlying179 Tryz.underlying3 cells3 cells179 h6), utf8_of_laid h⟩
theorem max_of_shape {W : World} (h : W.ShapedOpen Tryz.prog) : Max W := by
  obtain ⟨m, hm⟩ := Tryz.laysM145.s1_3 W h
  exact ⟨World.block_lt_of_cell? W _ hm, m, hm⟩
/-- From a contract that may lean on the listed variables and on the world's shape. -/
theorem handed_both {H : Type} {enc : TypeId × Value → H} {a : Assume} {C : Checked} {os : Os} {f : FuncId} {fn : Func} {s : ChangeSpec} {conds : List PathCond} {apart fresh handsOn again : Bool} {X : World → Array Value → Prop}
    (hX : ∀ (w w' : World) (args : Array Value), w.heap = w'.heap → X w args → X w' args)
    (own : ownKnob C.prog.godebug = none) (started : os.Started) (noInit : C.prog.inits.idxOf? f = none) (hfn : C.prog.funcs[f]? = some fn)
    (witness : ∃ (w : World) (tape : Tape) (i : Input), w.os = os ∧ (w.forCall tape i).Shaped C.prog ∧ i.vars = [] ∧ Input.okWide C.prog (w.forCall tape i) .any w.heap.size f i ∧
      ((s.pre enc C.prog fn conds apart (w.forCall tape i).memory i.args ∧ X (w.forCall tape i).memory i.args) ∧ sizedMet enc C.prog fn (OpenSpec.ofChange s) apart (w.forCall tape i).memory i.args) ∧ a.holds C.prog (lone (Frame.enter C.prog f i.args .normal) [] (w.forCall tape i)))
    (contract : ∀ (W : World) (base : Nat) (args : Array Value) (ds gs : List (DataW H)) (before : List MemPlace),
      (∀ (j : Nat) t v, fn.params[j]? = some t → args[j]? = some v → Value.okWide C.prog W .any base t v) →
      DataW.Whole enc C.prog fn.params.toList s.vars apart W args.toList ds gs before →
      (DataW.weightsEach C.prog (fn.params.toList ++ s.plain.varTypes C.prog) (ds ++ gs)).all (· ≤ reachBytes) = true → X W args → W.ShapedOpen C.prog →
      Calls C.prog f args W fun e W' => ∃ v, e = .returned v ∧ s.post enc C.prog fn apart fresh handsOn again W args v W') :
    ReturnsInHanded a C os f .any (fun w args => (s.pre enc C.prog fn conds apart w args ∧ X w args) ∧ sizedMet enc C.prog fn (OpenSpec.ofChange s) apart w args) (s.post enc C.prog fn apart fresh handsOn again) := by
  refine returnsInHanded_of_calls own started noInit witness ?_
  intro w tape i _ hsh _ hok hpre _
  obtain ⟨_, _, _, fn', hfn', _, _, _, _, hval⟩ := hok
  have e : fn' = fn := Option.some.inj (hfn'.symm.trans hfn)
  subst e
  obtain ⟨⟨⟨ds, gs, before, hw, hc⟩, hx⟩, hz⟩ := hpre
  have hw' := DataW.Whole.of_heap (w' := w.forCall tape i) (by rfl) hw
  refine (contract (w.forCall tape i) w.heap.size i.args ds gs before hval hw' (hz.weights hw) (hX _ _ _ (by rfl) hx) hsh).mono fun e W' ⟨v, he, hp⟩ => ?_
  subst he
  exact ChangeSpec.post_blind hp
end Go.Proofs.YtnaijahhogndjaaGreatDoor
