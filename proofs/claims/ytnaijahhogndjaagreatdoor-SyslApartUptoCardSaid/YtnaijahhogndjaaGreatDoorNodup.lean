/- Sorted and compacted, a list of texts is as long as it was just if none is there twice. No program is spoken of. -/
import Derived.Test.YtnaijahhogndjaaGreatDoorWords
import Derived.Lib.SlicesCompact
namespace Go.Proofs.YtnaijahhogndjaaGreatDoor
open Go

theorem le_tr (a b c : List UInt8) (h1 : decide (a ≤ b) = true) (h2 : decide (b ≤ c) = true) : decide (a ≤ c) = true := by
  rw [decide_eq_true_iff] at *
  exact List.le_trans h1 h2
theorem le_tot (a b : List UInt8) : (decide (a ≤ b) || decide (b ≤ a)) = true := by
  rw [Bool.or_eq_true, decide_eq_true_iff, decide_eq_true_iff]
  exact List.le_total a b
theorem filter_full {α : Type} (p : α → Bool) : ∀ l : List α, (l.filter p).length = l.length ↔ ∀ x ∈ l, p x = true
  | [] => by simp
  | x :: l => by
    have ih := filter_full p l
    have hle := List.length_filter_le p l
    by_cases hx : p x = true
    · rw [List.filter_cons_of_pos hx]
      simp only [List.length_cons, List.mem_cons, forall_eq_or_imp, hx, true_and]
      rw [← ih]; omega
    · rw [List.filter_cons_of_neg hx]
      rw [List.length_cons]
      exact ⟨fun h => by omega, fun h => absurd (h x (by simp)) hx⟩
theorem sorted_nodup {l : List (List UInt8)} (hs : l.Pairwise fun a b => decide (a ≤ b) = true) :
    (∀ j, 0 < j → (hj : j < l.length) → l[j] ≠ l[j - 1]) ↔ l.Nodup := by
  constructor
  · intro h
    unfold List.Nodup
    rw [List.pairwise_iff_getElem] at hs ⊢
    intro i j hi hj hij he
    have h1 := hs i (j - 1)
    have h2 := h j (by omega) hj
    apply h2
    have lo : l[j - 1] ≤ l[j] := by
      have := hs (j - 1) j (by omega) hj (by omega)
      exact of_decide_eq_true this
    have up : l[j] ≤ l[j - 1] := by
      rw [← he]
      rcases Nat.lt_or_ge i (j - 1) with hlt | hge
      · exact of_decide_eq_true (hs i (j - 1) hi (by omega) hlt)
      · have : j - 1 = i := by omega
        simp only [this]
        exact List.le_refl _
    exact List.le_antisymm up lo
  · intro h j h0 hj he
    unfold List.Nodup at h
    rw [List.pairwise_iff_getElem] at h
    exact h (j - 1) j (by omega) hj (by omega) he.symm
theorem compact_full (l : List (List UInt8)) : (Lib.compact l).length = l.length ↔ ∀ j, 0 < j → (hj : j < l.length) → l[j] ≠ l[j - 1] := by
  unfold Lib.compact Lib.compactUpTo
  rw [List.length_map]
  have e : ∀ n, ((List.range n).filter (Lib.keeps l.toArray)).length = n ↔ ∀ j ∈ List.range n, Lib.keeps l.toArray j = true := fun n => by
    have := filter_full (Lib.keeps l.toArray) (List.range n)
    rwa [List.length_range] at this
  rw [e]
  constructor
  · intro h j h0 hj he
    have := h j (List.mem_range.2 hj)
    rw [Lib.keeps_neg h0 (by rw [getElem!_pos l.toArray j (by simpa using hj), getElem!_pos l.toArray (j - 1) (by simp; omega)]; simpa using he)] at this
    cases this
  · intro h j hj
    have hj' := List.mem_range.1 hj
    rcases Nat.eq_zero_or_pos j with rfl | h0
    · exact Lib.keeps_lt_one _ 0 (by decide)
    · exact Lib.keeps_pos (by rw [getElem!_pos l.toArray j (by simpa using hj'), getElem!_pos l.toArray (j - 1) (by simp; omega)]; simpa using h j h0 hj')
theorem compact_sorted (ss : List (List UInt8)) : decide ((Lib.compact (ss.mergeSort fun x y => decide (x ≤ y))).length = ss.length) = decide ss.Nodup := by
  rw [decide_eq_decide]
  have hl : (ss.mergeSort fun x y => decide (x ≤ y)).length = ss.length := List.length_mergeSort ss
  have hp : (ss.mergeSort fun x y => decide (x ≤ y)).Perm ss := List.mergeSort_perm ss _
  have hs : (ss.mergeSort fun x y => decide (x ≤ y)).Pairwise fun a b => decide (a ≤ b) = true := List.pairwise_mergeSort le_tr le_tot ss
  rw [← hp.nodup_iff, ← sorted_nodup hs, ← compact_full, hl]
end Go.Proofs.YtnaijahhogndjaaGreatDoor
