/- Rows of events and rows of briefs among the arguments: opened out of the form's own reading, with the bounds of its reach. -/
import Derived.Test.YtloknemmodmkiaaRowsOf
namespace Go.Proofs.Ytloknemmodmkiaa
open Go.ChangeShapes Go.WideShapes Go.ChangeAt Go.RowKit Go.Joins

theorem bytes27 : Try.prog.bytesOf 27 = 136 := by kernel_rfl
theorem bytes30 : Try.prog.bytesOf 30 = 40 := by kernel_rfl
theorem reach_is : reachBytes = 140737488351232 := by decide
theorem choose_list {α : Type} {R : Nat → α → Prop} : ∀ n, (∀ i, i < n → ∃ x, R i x) → ∃ l : List α, l.length = n ∧ ∀ i x, l[i]? = some x → R i x
  | 0, _ => ⟨[], rfl, fun i x h => by simp at h⟩
  | n + 1, h => by
    obtain ⟨l, hl, hr⟩ := choose_list n (fun i hi => h i (by omega))
    obtain ⟨x, hx⟩ := h n (by omega)
    refine ⟨l ++ [x], by simp [hl], fun i y hy => ?_⟩
    rcases Nat.lt_or_ge i l.length with hi | hi
    · rw [List.getElem?_append_left hi] at hy
      exact hr i y hy
    · rw [List.getElem?_append_right hi] at hy
      have h0 : i - l.length = 0 := by
        rcases Nat.eq_zero_or_pos (i - l.length) with h | h
        · exact h
        · rw [List.getElem?_eq_none (by simp; omega)] at hy; cases hy
      rw [h0] at hy
      simp at hy
      subst hy
      have : i = n := by omega
      rw [this]; exact hx
theorem add_at (b o k : Nat) : (⟨b, o, none⟩ : Addr).add k = ⟨b, o + k, none⟩ := Go.WideShapes.add_plain ..
section
set_option maxRecDepth 100000
variable {H : Type} {enc : TypeId × Value → H} {W : World}
theorem open_evs {v : Value} {d : DataW H} {p : List MemPlace} {r : Reach} {b0 : Nat} (hv : Value.okWide Try.prog W r b0 35 v) (h : DataW.Trod enc Try.prog W 0 (fun _ => true) true 35 v d p) :
    ∃ A n cap es, v = .slice A n cap ∧ EvsAt W A n es ∧ ((∀ m ∈ d.weights Try.prog 35, m ≤ reachBytes) → n ≤ 3000000000000) := by
  obtain ⟨fuel, hf⟩ := h
  obtain ⟨A, n, cap, rfl⟩ := okWide_slice Try.underlying35 hv
  rcases DataW.trod_slice Try.underlying35 hf with ⟨hv, hy⟩ | ⟨a, len, cp, elems, rest, m, _, hv, hy, _, hlc, hmx, hel, hat, _, _⟩
  · simp [Value.cells] at hv
    obtain ⟨rfl, rfl, rfl⟩ := hv
    exact ⟨none, 0, 0, [], rfl, ⟨rfl, fun h => by omega⟩, fun _ => by decide⟩
  · simp [Value.cells] at hv
    obtain ⟨rfl, rfl, rfl⟩ := hv
    have hR : ∀ i, i < n → ∃ e : Ev, W.cells? 0 (a.add (i * 10)) 10 = some [.int .i64 e.g, .int .i64 e.f, .bool e.t, .int .i64 e.a, .string e.ho, .string e.ap, .string e.pr, .string e.id, .slice e.la e.ln e.lc, .string e.tx] := by
      intro i hi
      have hi' := hat i hi
      rw [cells27] at hi'
      have hlt : i < elems.length := by omega
      rw [List.getElem?_eq_getElem hlt, Option.bind_eq_some_iff] at hi'
      obtain ⟨cs, hcs, ht⟩ := hi'
      obtain ⟨e, he⟩ := event_cells ht
      exact ⟨e, by rw [hcs, he]⟩
    obtain ⟨es, hes, hr⟩ := choose_list n hR
    refine ⟨some a, n, cap, es, rfl, ⟨hes, fun h0 => ?_⟩, fun hw => ?_⟩
    · obtain ⟨b, off, spot⟩ := a
      obtain ⟨e0, he0⟩ : ∃ e0, es[0]? = some e0 := ⟨_, List.getElem?_eq_getElem (by omega)⟩
      obtain ⟨_, hl0, hc0⟩ := World.cells?_some (hr 0 e0 he0)
      have k0 := hc0 0 (by omega)
      obtain rfl : spot = none := by simpa [Addr.add] using World.cell?_spot k0
      refine ⟨b, off, rfl, ?_, fun j e he => ?_⟩
      · rw [add_at, add_at] at k0
        exact World.block_lt_of_cell? W _ k0
      · obtain ⟨_, hl, hc⟩ := World.cells?_some (hr j e he)
        have k : ∀ i, i < 10 → W.cell? ⟨b, off + j * 10 + i, none⟩ = [Value.int .i64 e.g, .int .i64 e.f, .bool e.t, .int .i64 e.a, .string e.ho, .string e.ap, .string e.pr, .string e.id, .slice e.la e.ln e.lc, .string e.tx][i]? := fun i hi => by
          have := hc i hi
          rw [add_at, add_at] at this
          exact this
        exact ⟨k 0 (by decide), k 1 (by decide), k 2 (by decide), k 3 (by decide), k 4 (by decide), k 5 (by decide), k 6 (by decide), k 7 (by decide), k 8 (by decide), k 9 (by decide)⟩
    · have hd : d = .slice (elems.map (·.1)) (rest.map (·.1)) := congrArg Prod.fst hy
      rw [hd] at hw
      simp only [DataW.weights, Try.underlying35, bytes27, List.mem_cons, List.mem_append, reach_is] at hw
      have h1 := hw _ (.inl rfl)
      simp only [List.length_map] at h1
      omega
theorem open_brs {v : Value} {d : DataW H} {p : List MemPlace} {r : Reach} {b0 : Nat} (hv : Value.okWide Try.prog W r b0 36 v) (h : DataW.Trod enc Try.prog W 0 (fun _ => true) true 36 v d p) :
    ∃ A n cap bs, v = .slice A n cap ∧ BrsAt W A n bs ∧ (∀ b ∈ bs, Fits b) ∧ (A = none → n = 0 ∧ cap = 0) ∧ (n = 0 ∨ ∃ l1 l2, d = .slice l1 l2 ∧ l1.length = n) := by
  obtain ⟨fuel, hf⟩ := h
  obtain ⟨A, n, cap, rfl⟩ := okWide_slice Try.underlying36 hv
  rcases DataW.trod_slice Try.underlying36 hf with ⟨hv, hy⟩ | ⟨a, len, cp, elems, rest, m, _, hv, hy, _, hlc, hmx, hel, hat, _, _⟩
  · simp [Value.cells] at hv
    obtain ⟨rfl, rfl, rfl⟩ := hv
    exact ⟨none, 0, 0, [], rfl, ⟨rfl, fun h => by omega⟩, (fun b hb => by simp at hb), (fun _ => ⟨rfl, rfl⟩), .inl rfl⟩
  · simp [Value.cells] at hv
    obtain ⟨rfl, rfl, rfl⟩ := hv
    have hR : ∀ i, i < n → ∃ x : Br, W.cells? 0 (a.add (i * 6)) 6 = some (bcells x) ∧ Fits x := by
      intro i hi
      have hi' := hat i hi
      rw [cells30] at hi'
      have hlt : i < elems.length := by omega
      rw [List.getElem?_eq_getElem hlt, Option.bind_eq_some_iff] at hi'
      obtain ⟨cs, hcs, ht⟩ := hi'
      obtain ⟨e, he, hfit⟩ := brief_cells ht
      exact ⟨e, by rw [hcs, he]; rfl, hfit⟩
    obtain ⟨es, hes, hr⟩ := choose_list n hR
    refine ⟨some a, n, cap, es, rfl, ⟨hes, fun h0 => ?_⟩, fun x hx => ?_, (fun h => by cases h), .inr ⟨_, _, congrArg Prod.fst hy, by rw [List.length_map]; exact hel⟩⟩
    · obtain ⟨b, off, spot⟩ := a
      obtain ⟨e0, he0⟩ : ∃ e0, es[0]? = some e0 := ⟨_, List.getElem?_eq_getElem (by omega)⟩
      obtain ⟨_, hl0, hc0⟩ := World.cells?_some (hr 0 e0 he0).1
      have k0 := hc0 0 (by omega)
      obtain rfl : spot = none := by simpa [Addr.add] using World.cell?_spot k0
      refine ⟨b, off, rfl, ?_, fun j e he => ?_⟩
      · rw [add_at, add_at] at k0
        exact World.block_lt_of_cell? W _ k0
      · obtain ⟨_, hl, hc⟩ := World.cells?_some (hr j e he).1
        have k : ∀ i, i < 6 → W.cell? ⟨b, off + j * 6 + i, none⟩ = (bcells e)[i]? := fun i hi => by
          have := hc i hi
          rw [add_at, add_at] at this
          exact this
        exact ⟨k 0 (by decide), k 1 (by decide), k 2 (by decide), k 3 (by decide), k 4 (by decide), k 5 (by decide)⟩
    · obtain ⟨i, hi, hxi⟩ := List.getElem_of_mem hx
      exact (hr i x (by rw [List.getElem?_eq_getElem hi, hxi])).2
end
end Go.Proofs.Ytloknemmodmkiaa
