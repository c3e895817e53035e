/- A hash among the arguments: opened out of the form's own reading. -/
import Derived.Test.YtgmehaeccfbamaeBit
import Derived.OpenShut
namespace Go.Proofs.Ytgmehaeccfbamae
open Go.ChangeShapes Go.WideShapes Go.ChangeAt Go.RowKit

theorem cells23 : Try.prog.cellsOf 23 = 32 := by kernel_rfl
theorem cells5 : Try.prog.cellsOf 5 = 1 := by kernel_rfl
section
set_option maxRecDepth 100000
variable {H : Type} {enc : TypeId × Value → H} {W : World}
theorem choose_list {α : Type} {R : Nat → α → Prop} : ∀ n, (∀ i, i < n → ∃ x, R i x) → ∃ l : List α, l.length = n ∧ ∀ i x, l[i]? = some x → R i x
  | 0, _ => ⟨[], rfl, fun i x h => by simp at h⟩
  | n + 1, h => by
    obtain ⟨l, hl, hr⟩ := choose_list n (fun i hi => h i (by omega))
    obtain ⟨x, hx⟩ := h n (by omega)
    refine ⟨l ++ [x], by simp [hl], fun i y hy => ?_⟩
    rcases Nat.lt_or_ge i l.length with hi | hi
    · rw [List.getElem?_append_left hi] at hy
      exact hr i y hy
    · rw [List.getElem?_append_right hi] at hy
      have h0 : i - l.length = 0 := by
        rcases Nat.eq_zero_or_pos (i - l.length) with h | h
        · exact h
        · rw [List.getElem?_eq_none (by simp; omega)] at hy; cases hy
      rw [h0] at hy
      simp at hy
      subst hy
      have : i = n := by omega
      rw [this]; exact hx
theorem open_hash {b0 : Nat} {v : Value} {d : DataW H} {ps : List MemPlace} (hval : Value.okWide Try.prog W .any b0 23 v) (hd : DataW.Trod enc Try.prog W 0 (fun _ => true) true 23 v d ps) :
    ∃ h : List UInt8, h.length = 32 ∧ v = .agg (cellsOf h) := by
  obtain ⟨cs, rfl, hsz⟩ : ∃ cs, v = .agg cs ∧ cs.size = 32 := by
    simp only [Value.okWide, Try.underlying23] at hval
    obtain ⟨cs, h1, h2, _⟩ := hval
    exact ⟨cs, h1, by rw [h2]; kernel_rfl⟩
  obtain ⟨m, hm⟩ := hd
  obtain ⟨xs, n, _, hx, hl, hlen, hg⟩ := DataW.trod_array Try.underlying23 hm
  have hR : ∀ i, i < 32 → ∃ c : UInt8, cs[i]? = some (.int .u8 ((c.toNat : Nat) : Int)) := by
    intro i hi
    have h1 := hg i hi
    rw [cells5, Nat.mul_one] at h1
    have hi2 : i < cs.size := by omega
    have e : ((Value.agg cs).cells.toList.drop i).take 1 = [cs[i]'hi2] := by
      show (cs.toList.drop i).take 1 = _
      rw [List.drop_eq_getElem_cons (by simpa using hi2)]
      simp
    rw [e] at h1
    obtain ⟨y, hy⟩ : ∃ y, xs[i]? = some y := ⟨xs[i]'(by omega), List.getElem?_eq_getElem _⟩
    rw [hy] at h1
    obtain ⟨a, ea, _, wa⟩ := DataW.trod_int Try.underlying5 h1
    have ha : 0 ≤ a ∧ a ≤ 255 := by simp [Lit.wf, IntKind.min, IntKind.max, IntKind.signed, IntKind.bits] at wa; omega
    simp at ea
    refine ⟨a.toNat.toUInt8, ?_⟩
    rw [Array.getElem?_eq_getElem hi2, ea]
    congr 2
    simp
    omega
  obtain ⟨l, hll, hlr⟩ := choose_list 32 hR
  refine ⟨l, hll, ?_⟩
  congr 1
  apply Array.ext
  · simp [cellsOf, hll, hsz]
  · intro i h1 h2
    have hi : i < l.length := by omega
    have := hlr i _ (List.getElem?_eq_getElem hi)
    rw [Array.getElem?_eq_getElem h1] at this
    rw [Option.some.inj this]
    simp [cellsOf]
end
end Go.Proofs.Ytgmehaeccfbamae
