/- The greatest power of two that isn't above a number, and the powers whose sum a number is, falling: as numbers and lists. -/
import Derived.Test.YtdmaipebckbmpaaShelf
import Derived.Lib.ItoaNum
namespace Go.Proofs.Ytdmaipebckbmpaa

def hi (n : Nat) : Nat := 2 ^ n.log2
theorem hi_pos (n : Nat) : 0 < hi n := Nat.two_pow_pos _
theorem hi_le (n : Nat) (h : n ≠ 0) : hi n ≤ n := Nat.log2_self_le h
theorem lt_hi (n : Nat) : n < 2 * hi n := by
  have h : n < 2 ^ (n.log2 + 1) := Nat.lt_log2_self
  rw [Nat.pow_succ] at h
  unfold hi
  omega
theorem bitLen_hi (n : Nat) (h0 : n ≠ 0) (h : n < 18446744073709551616) : Lib.bitLen n = n.log2 + 1 := by
  obtain ⟨a, b, c⟩ := Lib.bitLenAux_bounds 64 n h h0
  have e : Lib.bitLen n = Lib.bitLenAux 64 n := rfl
  rw [e]
  generalize Lib.bitLenAux 64 n = L at a b c ⊢
  have : n.log2 = L - 1 := (Nat.log2_eq_iff h0).2 ⟨b, by rw [show L - 1 + 1 = L by omega]; exact c⟩
  omega
theorem log2_lt (n k : Nat) (h0 : n ≠ 0) (h : n < 2 ^ k) : n.log2 < k := (Nat.log2_lt h0).2 h

/-- The powers of two whose sum a number is, falling. -/
def sz (n : Nat) : List Nat := if n = 0 then [] else hi n :: sz (n - hi n)
termination_by n
decreasing_by have := hi_pos n; omega
theorem sz_zero : sz 0 = [] := by rw [sz]; rfl
theorem sz_pos (n : Nat) (h : n ≠ 0) : sz n = hi n :: sz (n - hi n) := by rw [sz, if_neg h]

theorem sz_pow (n : Nat) : ∀ x ∈ sz n, ∃ k, x = 2 ^ k ∧ x ≤ n := by
  induction n using Nat.strongRecOn with
  | _ n ih =>
    intro x hx
    by_cases h : n = 0
    · subst h; rw [sz_zero] at hx; cases hx
    · rw [sz_pos n h] at hx
      rcases List.mem_cons.1 hx with rfl | hx
      · exact ⟨_, rfl, hi_le n h⟩
      · obtain ⟨k, h1, h2⟩ := ih (n - hi n) (by have := hi_pos n; omega) x hx
        exact ⟨k, h1, by omega⟩
theorem sz_sum (n : Nat) : (sz n).sum = n := by
  induction n using Nat.strongRecOn with
  | _ n ih =>
    by_cases h : n = 0
    · subst h; rw [sz_zero]; rfl
    · rw [sz_pos n h, List.sum_cons, ih (n - hi n) (by have := hi_pos n; omega)]
      have := hi_le n h
      omega
theorem sz_falls (n : Nat) : (sz n).Pairwise (· > ·) := by
  induction n using Nat.strongRecOn with
  | _ n ih =>
    by_cases h : n = 0
    · subst h; rw [sz_zero]; exact .nil
    · rw [sz_pos n h]
      refine List.Pairwise.cons (fun x hx => ?_) (ih (n - hi n) (by have := hi_pos n; omega))
      obtain ⟨k, _, h2⟩ := sz_pow _ x hx
      have := lt_hi n
      show x < hi n
      omega
theorem sz_length (k : Nat) : ∀ n, n < 2 ^ k → (sz n).length ≤ k := by
  induction k with
  | zero =>
    intro n h
    obtain rfl : n = 0 := (by simpa using h)
    rw [sz_zero]; exact Nat.le_refl _
  | succ k ih =>
    intro n h
    by_cases h0 : n = 0
    · subst h0; rw [sz_zero]; exact Nat.zero_le _
    · rw [sz_pos n h0, List.length_cons]
      have h1 := lt_hi n
      have h2 : hi n ≤ 2 ^ k := Nat.pow_le_pow_right (by decide) (by have := log2_lt n _ h0 h; omega)
      have := ih (n - hi n) (by omega)
      omega
theorem take_sum (l : List Nat) (k : Nat) : (l.take k).sum ≤ l.sum := by
  have h := congrArg List.sum (List.take_append_drop k l)
  rw [List.sum_append] at h
  omega

/-- The half of a number, from 2 on. -/
theorem half_ok (n : Nat) (h : 2 ≤ n) : hi (n - 1) < n ∧ n ≤ 2 * hi (n - 1) := by
  have h1 := hi_le (n - 1) (by omega)
  have h2 := lt_hi (n - 1)
  omega

theorem hi_pow (k : Nat) : hi (2 ^ (k + 1) - 1) = 2 ^ k := by
  have h1 : 0 < 2 ^ k := Nat.two_pow_pos k
  have e : (2 ^ (k + 1) - 1).log2 = k := (Nat.log2_eq_iff (by rw [Nat.pow_succ]; omega)).2 ⟨by rw [Nat.pow_succ]; omega, by rw [Nat.pow_succ]; omega⟩
  unfold hi
  rw [e]

/-- How many nodes there are above the i-th of n leaves. -/
def sp (i n : Nat) : Nat := if n < 2 then 0 else if i < hi (n - 1) then sp i (hi (n - 1)) + 1 else sp (i - hi (n - 1)) (n - hi (n - 1)) + 1
termination_by n
decreasing_by
  · have := half_ok n (by omega); omega
  · have := hi_pos (n - 1); omega
theorem sp_few (i n : Nat) (h : n < 2) : sp i n = 0 := by rw [sp, if_pos h]
theorem sp_left (i n : Nat) (h : 2 ≤ n) (hi1 : i < hi (n - 1)) : sp i n = sp i (hi (n - 1)) + 1 := by rw [sp, if_neg (by omega), if_pos hi1]
theorem sp_right (i n : Nat) (h : 2 ≤ n) (hi1 : ¬ i < hi (n - 1)) : sp i n = sp (i - hi (n - 1)) (n - hi (n - 1)) + 1 := by rw [sp, if_neg (by omega), if_neg hi1]
theorem sp_le (k : Nat) : ∀ i n, n ≤ 2 ^ k → sp i n ≤ k := by
  induction k with
  | zero => intro i n h; rw [sp_few i n (by simpa using Nat.lt_succ_of_le h)]; exact Nat.le_refl _
  | succ k ih =>
    intro i n h
    by_cases h2 : n < 2
    · rw [sp_few i n h2]; exact Nat.zero_le _
    · have h3 := half_ok n (by omega)
      have h4 : hi (n - 1) ≤ 2 ^ k := Nat.pow_le_pow_right (by decide) (by have := log2_lt (n - 1) (k + 1) (by omega) (by omega); omega)
      by_cases h5 : i < hi (n - 1)
      · rw [sp_left i n (by omega) h5]
        have := ih i (hi (n - 1)) h4
        omega
      · rw [sp_right i n (by omega) h5]
        have := ih (i - hi (n - 1)) (n - hi (n - 1)) (by omega)
        omega
theorem sp_pow (k : Nat) : ∀ i, i < 2 ^ k → sp i (2 ^ k) = k := by
  induction k with
  | zero => intro i _; exact sp_few i 1 (by decide)
  | succ k ih =>
    intro i h
    have h1 : 0 < 2 ^ k := Nat.two_pow_pos k
    have hp := hi_pow k
    have h2 : 2 ≤ 2 ^ (k + 1) := by rw [Nat.pow_succ]; omega
    by_cases h5 : i < 2 ^ k
    · rw [sp_left i _ h2 (by rw [hp]; exact h5), hp, ih i h5]
    · rw [sp_right i _ h2 (by rw [hp]; exact h5), hp, show 2 ^ (k + 1) - 2 ^ k = 2 ^ k by rw [Nat.pow_succ]; omega, ih (i - 2 ^ k) (by rw [Nat.pow_succ] at h; omega)]
theorem sp_first (i n : Nat) : sp i n ≤ sp 0 n := by
  by_cases h : n < 2
  · rw [sp_few i n h]; exact Nat.zero_le _
  · have e : hi (n - 1) = 2 ^ (n - 1).log2 := rfl
    have h3 := half_ok n (by omega)
    rw [sp_left 0 n (by omega) (hi_pos _), e, sp_pow _ 0 (Nat.two_pow_pos _)]
    exact sp_le _ i n (by rw [Nat.pow_succ, ← e]; omega)
end Go.Proofs.Ytdmaipebckbmpaa
