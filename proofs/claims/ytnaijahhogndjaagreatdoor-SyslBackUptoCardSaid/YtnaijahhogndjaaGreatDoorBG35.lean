/- How much of a text parameters and elements take: their own text is at most twice as long. -/
import Derived.Test.YtnaijahhogndjaaGreatDoorBG34
namespace Go.Proofs.YtnaijahhogndjaaGreatDoor
open Go.ChangeShapes Go.WideShapes Go.ChangeAt Go.RowKit

theorem takeV_sum : ∀ (n : Nat) (l : List UInt8) (p : List UInt8 × List UInt8), l.length ≤ n → takeV l = some p → p.1.length + p.2.length + 1 ≤ l.length
  | _, [], p, _, h => by cases h
  | _, [c], p, _, h => by
    unfold takeV at h
    split at h
    · cases h; simp
    · cases h
  | 0, c :: d :: r, p, hn, _ => by simp at hn
  | n + 1, c :: d :: r, p, hn, h => by
    rw [takeV] at h
    split at h
    · cases h; simp
    · split at h
      · cases h
      · split at h
        · cases hq : takeV r with
          | none => rw [hq] at h; cases h
          | some q =>
            rw [hq] at h
            cases h
            have := takeV_sum n r q (by simp at hn; omega) hq
            simp; omega
        · cases hq : takeV (d :: r) with
          | none => rw [hq] at h; cases h
          | some q =>
            rw [hq] at h
            cases h
            have := takeV_sum n (d :: r) q (by simp at hn ⊢; omega) hq
            simp at this ⊢; omega
theorem trim_len {l s : List UInt8} (h : Lib.hasPrefix l s = true) : (Lib.trimPrefix l s).length + s.length = l.length := by
  unfold Lib.trimPrefix
  rw [h]
  simp only [if_true, List.length_drop]
  have := (List.isPrefixOf_iff_prefix.1 (show s.isPrefixOf l = true from h)).length_le
  omega
theorem prms_sum : ∀ (n : Nat) (l : List UInt8) (p : List Prm × List UInt8), prmsL n l = some p → (prmsT p.1).length + 2 * p.2.length ≤ 2 * l.length
  | 0, l, p, h => by cases h; simp [prmsT]
  | n + 1, l, p, h => by
    unfold prmsL at h
    split at h
    · rename_i h1
      split at h
      · rename_i h2
        split at h
        · rename_i q hq
          cases hz : prmsL n q.2 with
          | none => rw [hz] at h; cases h
          | some z =>
            rw [hz] at h
            cases h
            have k1 := prms_sum n q.2 z hz
            have k2 := takeV_sum _ _ q (Nat.le_refl _) hq
            have k3 := trim_len h2
            have k4 := trim_len h1
            have k5 := (valueL_length q.1).2
            have k6 : nameAt (Lib.trimPrefix l [32]) ≤ (Lib.trimPrefix l [32]).length := List.findIdx_le_length
            rw [List.length_drop] at k3
            simp only [List.length_cons, List.length_nil] at k3 k4
            have e : prmsT ((bytes ((Lib.trimPrefix l [32]).take (nameAt (Lib.trimPrefix l [32]))), bytes q.1) :: z.1) = prmT (bytes ((Lib.trimPrefix l [32]).take (nameAt (Lib.trimPrefix l [32]))), bytes q.1) ++ prmsT z.1 := rfl
            simp only
            rw [e, List.length_append]
            have e2 : (prmT (bytes ((Lib.trimPrefix l [32]).take (nameAt (Lib.trimPrefix l [32]))), bytes q.1)).length = nameAt (Lib.trimPrefix l [32]) + (valueL q.1).length + 4 := by
              unfold prmT
              simp only [bytes_list, List.length_cons, List.length_append, List.length_take, List.length_nil]
              omega
            omega
        · cases h
      · cases h
    · cases h; simp [prmsT]
theorem element_sum {l : List UInt8} {p : Elm × List UInt8} (h : elementL l = some p) : (elmT p.1).length + 2 * p.2.length ≤ 2 * l.length := by
  unfold elementL at h
  split at h
  · rename_i q hq
    split at h
    · rename_i h1
      cases h
      have k1 := prms_sum _ _ _ hq
      have k2 := trim_len h1
      have k3 := trim_le l [91]
      have k6 : nameAt (Lib.trimPrefix l [91]) ≤ (Lib.trimPrefix l [91]).length := List.findIdx_le_length
      rw [List.length_drop] at k1
      simp only [List.length_cons, List.length_nil] at k2
      simp only
      have e2 : (elmT (bytes ((Lib.trimPrefix l [91]).take (nameAt (Lib.trimPrefix l [91]))), q.1)).length = nameAt (Lib.trimPrefix l [91]) + (prmsT q.1).length + 2 := by
        unfold elmT
        simp only [bytes_list, List.length_cons, List.length_append, List.length_take, List.length_nil]
        omega
      omega
    · cases h
  · cases h
theorem elms_sum : ∀ (n : Nat) (l : List UInt8) (p : List Elm × List UInt8), elmsL n l = some p → (elmsT p.1).length + 2 * p.2.length ≤ 2 * l.length
  | 0, l, p, h => by cases h; simp [elmsT]
  | n + 1, l, p, h => by
    unfold elmsL at h
    split at h
    · split at h
      · rename_i q hq
        cases hz : elmsL n q.2 with
        | none => rw [hz] at h; cases h
        | some z =>
          rw [hz] at h
          cases h
          have k1 := elms_sum n q.2 z hz
          have k2 := element_sum hq
          have e : elmsT (q.1 :: z.1) = elmT q.1 ++ elmsT z.1 := rfl
          simp only
          rw [e, List.length_append]
          omega
      · cases h
    · cases h; simp [elmsT]
theorem elements_sum {l : List UInt8} {p : List Elm × List UInt8} (h : elementsL l = some p) : (elmsT p.1).length + 2 * p.2.length ≤ 2 * l.length := by
  unfold elementsL at h
  split at h
  · cases h
    have := trim_le l [45]
    simp [elmsT]
    omega
  · split at h
    · rename_i q hq
      split at h
      · cases h
      · cases h; exact elms_sum _ _ _ hq
    · cases h
theorem mem_flat {α : Type} (f : α → List UInt8) : ∀ (l : List α) (x : α), x ∈ l → (f x).length ≤ (l.flatMap f).length
  | [], x, h => by cases h
  | y :: l, x, h => by
    rw [List.flatMap_cons, List.length_append]
    rcases List.mem_cons.1 h with rfl | h
    · omega
    · have := mem_flat f l x h; omega
theorem len_flat {α : Type} (f : α → List UInt8) (hf : ∀ x, 1 ≤ (f x).length) : ∀ l : List α, l.length ≤ (l.flatMap f).length
  | [] => Nat.le_refl _
  | y :: l => by
    rw [List.flatMap_cons, List.length_append, List.length_cons]
    have := len_flat f hf l
    have := hf y
    omega
/-- Elements whose text is short fit. -/
theorem fit_of_len {es : List Elm} (h : (elmsT es).length ≤ 1073741824) : ElmsFit es := by
  have h1 : es.length ≤ (elmsT es).length := len_flat elmT (fun e => by unfold elmT; simp) es
  refine ⟨by omega, fun e he => ?_⟩
  have h2 : (elmT e).length ≤ (elmsT es).length := mem_flat elmT es e he
  have e1 : (elmT e).length = e.1.size + (prmsT e.2).length + 2 := by
    unfold elmT
    simp only [List.length_cons, List.length_append, List.length_nil, list_size]
    omega
  have h3 : e.2.length ≤ (prmsT e.2).length := len_flat prmT (fun p => by unfold prmT; simp) e.2
  refine ⟨by omega, by omega, fun p hp => ?_⟩
  have h4 : (prmT p).length ≤ (prmsT e.2).length := mem_flat prmT e.2 p hp
  have h5 := (valueL_length p.2.data.toList).1
  have e2 : (prmT p).length = p.1.size + (valueL p.2.data.toList).length + 4 := by
    unfold prmT
    simp only [List.length_cons, List.length_append, List.length_nil, list_size]
    omega
  rw [list_size] at h5
  exact ⟨by omega, by omega⟩
theorem behind_len (l : List UInt8) : (behindL l).1.length ≤ l.length := by
  unfold behindL
  split
  · simp
  · have h1 := trim_le (Lib.trimPrefix l [32]) [239, 187, 191]
    have h2 := trim_le l [32]
    simp only
    omega
end Go.Proofs.YtnaijahhogndjaaGreatDoor
