/- Disks, rows of numbers, and what the statements are asked of, among the arguments: opened out of the form's own reading. -/
import Derived.Test.YtpkoonokagchgaaTorn
import Derived.ProofKit
import Derived.OpenShut
import Derived.ShutString
import Derived.ChangeOld
import Derived.Lib.SmallJoins
namespace Go.Proofs.Ytpkoonokagchgaa
open Go.ChangeShapes Go.WideShapes Go.ChangeAt Go.RowKit Go.Joins

theorem own : ownKnob Try.prog.godebug = none := by kernel_rfl
theorem laidOut : laidOutB Try.prog = true := by kernel_rfl
theorem cells3 : Try.prog.cellsOf 3 = 1 := by kernel_rfl
theorem cells4 : Try.prog.cellsOf 4 = 1 := by kernel_rfl
theorem cells9 : Try.prog.cellsOf 9 = 1 := by kernel_rfl
theorem cells22 : Try.prog.cellsOf 22 = 1 := by kernel_rfl
theorem cells23 : Try.prog.cellsOf 23 = 1 := by kernel_rfl
theorem cells26 : Try.prog.cellsOf 26 = 1 := by kernel_rfl
theorem cells25 : Try.prog.cellsOf 25 = 4 := by kernel_rfl
theorem cells55 : Try.prog.cellsOf 55 = 2 := by kernel_rfl
theorem cells28 : Try.prog.cellsOf 28 = 9 := by kernel_rfl
theorem cells51 : Try.prog.cellsOf 51 = 7 := by kernel_rfl
theorem cells59 : Try.prog.cellsOf 59 = 7 := by kernel_rfl
theorem bytes3 : Try.prog.bytesOf 3 = 8 := by kernel_rfl
theorem reach_is : reachBytes = 140737488351232 := by decide
theorem choose_list {α : Type} {R : Nat → α → Prop} : ∀ n, (∀ i, i < n → ∃ x, R i x) → ∃ l : List α, l.length = n ∧ ∀ i x, l[i]? = some x → R i x
  | 0, _ => ⟨[], rfl, fun i x h => by simp at h⟩
  | n + 1, h => by
    obtain ⟨l, hl, hr⟩ := choose_list n (fun i hi => h i (by omega))
    obtain ⟨x, hx⟩ := h n (by omega)
    refine ⟨l ++ [x], by simp [hl], fun i y hy => ?_⟩
    rcases Nat.lt_or_ge i l.length with hi | hi
    · rw [List.getElem?_append_left hi] at hy
      exact hr i y hy
    · rw [List.getElem?_append_right hi] at hy
      have h0 : i - l.length = 0 := by
        rcases Nat.eq_zero_or_pos (i - l.length) with h | h
        · exact h
        · rw [List.getElem?_eq_none (by simp; omega)] at hy; cases hy
      rw [h0] at hy
      simp at hy
      subst hy
      have : i = n := by omega
      rw [this]; exact hx

section
set_option maxRecDepth 100000
variable {H : Type} {enc : TypeId × Value → H} {W : World}

theorem one_cell {a : Addr} {cs : List Value} {base : Nat} (h : W.cells? base a 1 = some cs) : ∃ c0, cs = [c0] ∧ W.cell? (a.add 0) = some c0 := by
  obtain ⟨_, hl, hc⟩ := World.cells?_some h
  match cs, hl with
  | [c0], _ => exact ⟨c0, rfl, by simpa using hc 0 (by omega)⟩
theorem two_cells {a : Addr} {cs : List Value} {base : Nat} (h : W.cells? base a 2 = some cs) : ∃ c0 c1, cs = [c0, c1] ∧ W.cell? (a.add 0) = some c0 ∧ W.cell? (a.add 1) = some c1 := by
  obtain ⟨_, hl, hc⟩ := World.cells?_some h
  match cs, hl with
  | [c0, c1], _ => exact ⟨c0, c1, rfl, by simpa using hc 0 (by omega), by simpa using hc 1 (by omega)⟩

theorem open_texts {fuel : Nat} {v : Value} {y : DataW H × List MemPlace} (h : DataW.trod enc Try.prog W 0 (fun _ => true) true fuel 22 [v] = some y) :
    ∃ A c l, v = .slice A l.length c ∧ RowT W A c l := by
  rcases DataW.trod_slice Try.underlying22 h with ⟨hv, hy⟩ | ⟨a, len, cap, elems, rest, n, _, hv, hy, _, hlc, _, hel, hat, _, _⟩
  · simp only [List.cons.injEq, and_true] at hv
    subst hv
    exact ⟨none, 0, [], rfl, RowT.nil W⟩
  · simp only [List.cons.injEq, and_true] at hv
    subst hv
    have hR : ∀ i, i < len → ∃ x : ByteArray, W.cell? ((a.add (i * 1)).add 0) = some (.string x) := by
      intro i hi
      have hi' := hat i hi
      rw [cells9] at hi'
      have hlt : i < elems.length := by omega
      rw [List.getElem?_eq_getElem hlt, Option.bind_eq_some_iff] at hi'
      obtain ⟨cs, hcs, ht⟩ := hi'
      obtain ⟨c0, rfl, k0⟩ := one_cell hcs
      obtain ⟨s0, e0, _, _⟩ := DataW.trod_string Try.underlying9 ht
      simp only [List.cons.injEq, and_true] at e0
      subst e0
      exact ⟨s0, k0⟩
    obtain ⟨l, hl, hr⟩ := choose_list len hR
    refine ⟨some a, cap, l, by rw [hl], ⟨fun h0 => ?_, fun h => (by cases h), by omega⟩⟩
    rw [tcells_length] at h0
    obtain ⟨b, off, spot⟩ := a
    have k0 := hr 0 l[0] (List.getElem?_eq_getElem h0)
    obtain rfl : spot = none := by simpa [Addr.add] using World.cell?_spot k0
    refine ⟨b, off, rfl, ?_, fun j u hu => ?_⟩
    · rw [add_plain, add_plain] at k0
      exact World.block_lt_of_cell? W _ k0
    · simp only [tcells, List.getElem?_map, Option.map_eq_some_iff] at hu
      obtain ⟨x, hx, rfl⟩ := hu
      have := hr j x hx
      rw [add_plain, add_plain, Nat.mul_one, Nat.add_zero] at this
      exact this

theorem open_writes {fuel : Nat} {v : Value} {y : DataW H × List MemPlace} (h : DataW.trod enc Try.prog W 0 (fun _ => true) true fuel 23 [v] = some y) :
    ∃ A c l, v = .slice A l.length c ∧ RowW W A c l := by
  rcases DataW.trod_slice Try.underlying23 h with ⟨hv, hy⟩ | ⟨a, len, cap, elems, rest, n, _, hv, hy, _, hlc, _, hel, hat, _, _⟩
  · simp only [List.cons.injEq, and_true] at hv
    subst hv
    exact ⟨none, 0, [], rfl, RowW.nil W⟩
  · simp only [List.cons.injEq, and_true] at hv
    subst hv
    have hR : ∀ i, i < len → ∃ x : Wr, W.cell? ((a.add (i * 2)).add 0) = some (.int .i64 x.p) ∧ W.cell? ((a.add (i * 2)).add 1) = some (.string x.s) := by
      intro i hi
      have hi' := hat i hi
      rw [cells55] at hi'
      have hlt : i < elems.length := by omega
      rw [List.getElem?_eq_getElem hlt, Option.bind_eq_some_iff] at hi'
      obtain ⟨cs, hcs, ht⟩ := hi'
      obtain ⟨c0, c1, rfl, k0, k1⟩ := two_cells hcs
      obtain ⟨xs, n', _, hx, hl, hlen, hg⟩ := DataW.trod_struct Try.underlying55 ht
      have g0 := hg 0 _ rfl
      have g1 := hg 1 _ rfl
      match xs, hlen with
      | [y0, y1], _ =>
        simp [cells3, cells9] at g0 g1
        obtain ⟨a0, e0, _, _⟩ := DataW.trod_int Try.underlying3 g0
        obtain ⟨s1, e1, _, _⟩ := DataW.trod_string Try.underlying9 g1
        simp only [List.cons.injEq, and_true] at e0 e1
        subst e0 e1
        exact ⟨⟨a0, s1⟩, k0, k1⟩
    obtain ⟨l, hl, hr⟩ := choose_list len hR
    refine ⟨some a, cap, l, by rw [hl], ⟨fun h0 => ?_, fun h => (by cases h), by omega⟩⟩
    rw [wrcells_length] at h0
    obtain ⟨b, off, spot⟩ := a
    have hl0 : 0 < l.length := by omega
    have k0 := (hr 0 l[0] (List.getElem?_eq_getElem hl0)).1
    obtain rfl : spot = none := by simpa [Addr.add] using World.cell?_spot k0
    refine ⟨b, off, rfl, ?_, fun j u hu => ?_⟩
    · rw [add_plain, add_plain] at k0
      exact World.block_lt_of_cell? W _ k0
    · have hj : j < l.length * 2 := by rw [← wrcells_length]; exact (List.getElem?_eq_some_iff.1 hu).1
      have hx : l[j / 2]? = some l[j / 2] := List.getElem?_eq_getElem (by omega)
      have k := hr (j / 2) _ hx
      have k2 := wr_at hx
      rw [add_plain, add_plain, add_plain] at k
      rcases Nat.mod_two_eq_zero_or_one j with hm | hm
      · have e : j / 2 * 2 = j := by omega
        rw [e] at k k2
        rw [k2.1] at hu
        rw [Nat.add_zero] at k
        rw [← hu]
        exact k.1
      · have e : j / 2 * 2 + 1 = j := by omega
        rw [e] at k2
        rw [k2.2] at hu
        have k3 := k.2
        rw [Nat.add_assoc, e] at k3
        rw [← hu]
        exact k3

theorem open_ints {fuel : Nat} {v : Value} {y : DataW H × List MemPlace} (h : DataW.trod enc Try.prog W 0 (fun _ => true) true fuel 26 [v] = some y) :
    ∃ A c l, v = .slice A l.length c ∧ RowI W A c l ∧ ((∀ m ∈ y.1.weights Try.prog 26, m ≤ reachBytes) → c ≤ 4611686018427387904) := by
  rcases DataW.trod_slice Try.underlying26 h with ⟨hv, hy⟩ | ⟨a, len, cap, elems, rest, n, _, hv, hy, _, hlc, _, hel, hat, hsp, _⟩
  · simp only [List.cons.injEq, and_true] at hv
    subst hv
    exact ⟨none, 0, [], rfl, RowI.nil W, fun _ => by decide⟩
  · simp only [List.cons.injEq, and_true] at hv
    subst hv
    have hR : ∀ i, i < len → ∃ x : Int, W.cell? ((a.add (i * 1)).add 0) = some (.int .i64 x) := by
      intro i hi
      have hi' := hat i hi
      rw [cells3] at hi'
      have hlt : i < elems.length := by omega
      rw [List.getElem?_eq_getElem hlt, Option.bind_eq_some_iff] at hi'
      obtain ⟨cs, hcs, ht⟩ := hi'
      obtain ⟨c0, rfl, k0⟩ := one_cell hcs
      obtain ⟨s0, e0, _, _⟩ := DataW.trod_int Try.underlying3 ht
      simp only [List.cons.injEq, and_true] at e0
      subst e0
      exact ⟨s0, k0⟩
    obtain ⟨l, hl, hr⟩ := choose_list len hR
    refine ⟨some a, cap, l, by rw [hl], ⟨fun h0 => ?_, fun h => (by cases h), by omega⟩, fun hw => ?_⟩
    · rw [icells_length] at h0
      obtain ⟨b, off, spot⟩ := a
      have k0 := hr 0 l[0] (List.getElem?_eq_getElem h0)
      obtain rfl : spot = none := by simpa [Addr.add] using World.cell?_spot k0
      refine ⟨b, off, rfl, ?_, fun j u hu => ?_⟩
      · rw [add_plain, add_plain] at k0
        exact World.block_lt_of_cell? W _ k0
      · simp only [icells, List.getElem?_map, Option.map_eq_some_iff] at hu
        obtain ⟨x, hx, rfl⟩ := hu
        have := hr j x hx
        rw [add_plain, add_plain, Nat.mul_one, Nat.add_zero] at this
        exact this
    · have hrest := (hsp rfl).1
      rw [hy] at hw
      simp only [DataW.weights, Try.underlying26, bytes3, List.mem_cons, List.mem_append, reach_is] at hw
      have h1 := hw _ (.inl rfl)
      simp only [List.length_map] at h1
      omega

theorem open_disk_cells {fuel : Nat} {cs : List Value} {y : DataW H × List MemPlace} (h : DataW.trod enc Try.prog W 0 (fun _ => true) true fuel 25 cs = some y) :
    ∃ d kA kc wA wc, cs = [.int .i64 d.sz, .slice kA d.ks.length kc, .slice wA d.ws.length wc, .bool d.off] ∧ At W d kA kc wA wc := by
  obtain ⟨xs, n, _, hx, hl, hlen, hg⟩ := DataW.trod_struct Try.underlying25 h
  rw [cells25] at hl
  have g0 := hg 0 _ rfl
  have g1 := hg 1 _ rfl
  have g2 := hg 2 _ rfl
  have g3 := hg 3 _ rfl
  match cs, hl, xs, hlen with
  | [c0, c1, c2, c3], _, [y0, y1, y2, y3], _ =>
    simp [cells3, cells4, cells22, cells23] at g0 g1 g2 g3
    obtain ⟨a0, e0, _, _⟩ := DataW.trod_int Try.underlying3 g0
    obtain ⟨kA, kc, ks, e1, hk⟩ := open_texts g1
    obtain ⟨wA, wc, ws, e2, hw⟩ := open_writes g2
    obtain ⟨b3, e3, _⟩ := DataW.trod_bool Try.underlying4 g3
    simp only [List.cons.injEq, and_true] at e0 e3
    subst e0 e1 e2 e3
    exact ⟨⟨a0, ks, ws, b3⟩, kA, kc, wA, wc, rfl, at_of hk hw⟩

theorem open_disk {r : Reach} {b0 : Nat} {v : Value} {d : DataW H} {p : List MemPlace} (hv : Value.okWide Try.prog W r b0 25 v) (h : DataW.Trod enc Try.prog W 0 (fun _ => true) true 25 v d p) :
    ∃ d kA kc wA wc, v = dval d kA kc wA wc ∧ At W d kA kc wA wc := by
  obtain ⟨cs, rfl, hsz⟩ := okWide_struct Try.underlying25 hv
  obtain ⟨fuel, hf⟩ := h
  obtain ⟨l⟩ := cs
  obtain ⟨d, kA, kc, wA, wc, h1, h2⟩ := open_disk_cells hf
  simp only [Value.cells] at h1
  subst h1
  exact ⟨d, kA, kc, wA, wc, rfl, h2⟩
theorem open_keep {r : Reach} {b0 : Nat} {v : Value} {d : DataW H} {p : List MemPlace} (hv : Value.okWide Try.prog W r b0 26 v) (h : DataW.Trod enc Try.prog W 0 (fun _ => true) true 26 v d p) :
    ∃ A c l, v = .slice A l.length c ∧ RowI W A c l ∧ ((∀ m ∈ d.weights Try.prog 26, m ≤ reachBytes) → c ≤ 4611686018427387904) := by
  obtain ⟨fuel, hf⟩ := h
  obtain ⟨A, n, cap, rfl⟩ := okWide_slice Try.underlying26 hv
  exact open_ints hf

theorem open_reads {r : Reach} {b0 : Nat} {v : Value} {d : DataW H} {p : List MemPlace} (hv : Value.okWide Try.prog W r b0 51 v) (h : DataW.Trod enc Try.prog W 0 (fun _ => true) true 51 v d p) :
    ∃ d kA kc wA wc at_ s other, v = .agg #[.int .i64 d.sz, .slice kA d.ks.length kc, .slice wA d.ws.length wc, .bool d.off, .int .i64 at_, .string s, .int .i64 other] ∧ At W d kA kc wA wc := by
  obtain ⟨cs, rfl, hsz⟩ := okWide_struct Try.underlying51 hv
  obtain ⟨fuel, hf⟩ := h
  obtain ⟨l⟩ := cs
  match l, hsz.trans cells51 with
  | [c0, c1, c2, c3, c4, c5, c6], _ =>
    obtain ⟨xs, n, _, hx, _, hlen, hg⟩ := DataW.trod_struct Try.underlying51 hf
    have g0 := hg 0 _ rfl
    have g1 := hg 1 _ rfl
    have g2 := hg 2 _ rfl
    have g3 := hg 3 _ rfl
    match xs, hlen with
    | [y0, y1, y2, y3], _ =>
      simp [Value.cells, cells25, cells3, cells9] at g0 g1 g2 g3
      obtain ⟨d, kA, kc, wA, wc, e0, hat⟩ := open_disk_cells g0
      obtain ⟨a1, e1, _, _⟩ := DataW.trod_int Try.underlying3 g1
      obtain ⟨s2, e2, _, _⟩ := DataW.trod_string Try.underlying9 g2
      obtain ⟨a3, e3, _, _⟩ := DataW.trod_int Try.underlying3 g3
      simp only [List.cons.injEq, and_true] at e0 e1 e2 e3
      obtain ⟨rfl, rfl, rfl, rfl⟩ := e0
      subst e1 e2 e3
      exact ⟨d, kA, kc, wA, wc, a1, s2, a3, rfl, hat⟩
theorem open_last {r : Reach} {b0 : Nat} {v : Value} {d : DataW H} {p : List MemPlace} (hv : Value.okWide Try.prog W r b0 59 v) (h : DataW.Trod enc Try.prog W 0 (fun _ => true) true 59 v d p) :
    ∃ d kA kc wA wc at_ s t, v = .agg #[.int .i64 d.sz, .slice kA d.ks.length kc, .slice wA d.ws.length wc, .bool d.off, .int .i64 at_, .string s, .string t] ∧ At W d kA kc wA wc := by
  obtain ⟨cs, rfl, hsz⟩ := okWide_struct Try.underlying59 hv
  obtain ⟨fuel, hf⟩ := h
  obtain ⟨l⟩ := cs
  match l, hsz.trans cells59 with
  | [c0, c1, c2, c3, c4, c5, c6], _ =>
    obtain ⟨xs, n, _, hx, _, hlen, hg⟩ := DataW.trod_struct Try.underlying59 hf
    have g0 := hg 0 _ rfl
    have g1 := hg 1 _ rfl
    have g2 := hg 2 _ rfl
    have g3 := hg 3 _ rfl
    match xs, hlen with
    | [y0, y1, y2, y3], _ =>
      simp [Value.cells, cells25, cells3, cells9] at g0 g1 g2 g3
      obtain ⟨d, kA, kc, wA, wc, e0, hat⟩ := open_disk_cells g0
      obtain ⟨a1, e1, _, _⟩ := DataW.trod_int Try.underlying3 g1
      obtain ⟨s2, e2, _, _⟩ := DataW.trod_string Try.underlying9 g2
      obtain ⟨s3, e3, _, _⟩ := DataW.trod_string Try.underlying9 g3
      simp only [List.cons.injEq, and_true] at e0 e1 e2 e3
      obtain ⟨rfl, rfl, rfl, rfl⟩ := e0
      subst e1 e2 e3
      exact ⟨d, kA, kc, wA, wc, a1, s2, s3, rfl, hat⟩
end
end Go.Proofs.Ytpkoonokagchgaa
