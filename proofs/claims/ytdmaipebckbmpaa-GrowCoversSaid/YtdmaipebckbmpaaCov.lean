/- The cover of m to n, as lists: sizes and places; that each size is a power of two that divides its place; that there are 25 at most. -/
import Derived.Test.YtdmaipebckbmpaaNum
namespace Go.Proofs.Ytdmaipebckbmpaa

/-- How often 2 divides a number (so often at most). -/
def tzF : Nat → Nat → Nat
  | 0, _ => 0
  | f + 1, a => if a % 2 = 0 then tzF f (a / 2) + 1 else 0
theorem tzF_dvd : ∀ f a, 2 ^ tzF f a ∣ a := by
  intro f
  induction f with
  | zero => intro a; exact Nat.one_dvd a
  | succ f ih =>
    intro a
    unfold tzF
    by_cases h : a % 2 = 0
    · rw [if_pos h]
      obtain ⟨q, hq⟩ := ih (a / 2)
      exact ⟨q, by rw [Nat.pow_succ, Nat.mul_right_comm, ← hq]; omega⟩
    · rw [if_neg h]
      exact Nat.one_dvd a
theorem tzF_odd : ∀ f a, 0 < a → a < 2 ^ f → ∃ q, a = 2 ^ tzF f a * (2 * q + 1) := by
  intro f
  induction f with
  | zero => intro a h1 h2; simp at h2; omega
  | succ f ih =>
    intro a h1 h2
    rw [Nat.pow_succ] at h2
    unfold tzF
    by_cases h : a % 2 = 0
    · rw [if_pos h]
      obtain ⟨q, hq⟩ := ih (a / 2) (by omega) (by omega)
      exact ⟨q, by rw [Nat.pow_succ, Nat.mul_right_comm, ← hq]; omega⟩
    · rw [if_neg h]
      exact ⟨a / 2, by simp; omega⟩
def tz (a : Nat) : Nat := tzF 12 a
theorem tz_dvd (a : Nat) : 2 ^ tz a ∣ a := tzF_dvd 12 a
theorem tz_odd (a : Nat) (h0 : 0 < a) (h : a < 4096) : ∃ q, a = 2 ^ tz a * (2 * q + 1) := tzF_odd 12 a h0 h
theorem pow_dvd {i k : Nat} (h : i ≤ k) : (2 : Nat) ^ i ∣ 2 ^ k := Nat.pow_dvd_pow 2 h
theorem tz_max (a k : Nat) (h0 : 0 < a) (h : a < 4096) (hk : 2 ^ k ∣ a) : k ≤ tz a := by
  refine Decidable.byContradiction fun hn => ?_
  obtain ⟨q, hq⟩ := tz_odd a h0 h
  obtain ⟨r, hr⟩ := Nat.dvd_trans (pow_dvd (show tz a + 1 ≤ k by omega)) hk
  have hp : 0 < 2 ^ tz a := Nat.two_pow_pos _
  have e : 2 ^ tz a * (2 * q + 1) = 2 ^ tz a * (2 * r) := by rw [← hq, ← Nat.mul_assoc, ← Nat.pow_succ, ← hr]
  have := Nat.eq_of_mul_eq_mul_left hp e
  omega
theorem tz_lt (a : Nat) (h0 : 0 < a) (h : a < 4096) : tz a < 12 := by
  refine Decidable.byContradiction fun hn => ?_
  have h1 : 2 ^ tz a ≤ a := Nat.le_of_dvd h0 (tz_dvd a)
  have h2 : 2 ^ 12 ≤ 2 ^ tz a := Nat.pow_le_pow_right (by decide) (by omega)
  omega

/-- The largest power of two that divides a place, and isn't more than what is left. -/
def lg (a l : Nat) : Nat := if a = 0 then hi l else min (2 ^ tz a) (hi l)
theorem hi_is (l : Nat) : hi l = 2 ^ l.log2 := rfl
theorem lg_any (a l : Nat) : ∃ k, lg a l = 2 ^ k ∧ k ≤ l.log2 ∧ (a = 0 ∨ k ≤ tz a) := by
  unfold lg
  by_cases h0 : a = 0
  · exact ⟨l.log2, by rw [if_pos h0]; rfl, Nat.le_refl _, .inl h0⟩
  · rw [if_neg h0, hi_is]
    by_cases h : tz a ≤ l.log2
    · exact ⟨tz a, Nat.min_eq_left (Nat.pow_le_pow_right (by decide) h), h, .inr (Nat.le_refl _)⟩
    · exact ⟨l.log2, Nat.min_eq_right (Nat.pow_le_pow_right (by decide) (by omega)), Nat.le_refl _, .inr (by omega)⟩
theorem lg_pos (a l : Nat) : 0 < lg a l := by
  obtain ⟨k, h, _⟩ := lg_any a l
  rw [h]
  exact Nat.two_pow_pos k
theorem lg_le (a l : Nat) (h : l ≠ 0) : lg a l ≤ l := by
  obtain ⟨k, h1, h2, _⟩ := lg_any a l
  have h3 : 2 ^ k ≤ 2 ^ l.log2 := Nat.pow_le_pow_right (by decide) h2
  have h4 := hi_le l h
  rw [hi_is] at h4
  omega
theorem lg_dvd (a l : Nat) : lg a l ∣ a := by
  obtain ⟨k, h1, _, h3⟩ := lg_any a l
  rcases h3 with rfl | h3
  · exact Nat.dvd_zero _
  · rw [h1]
    exact Nat.dvd_trans (pow_dvd h3) (tz_dvd a)

/-- The cover. -/
def cv (a n : Nat) : List Nat := if a < n then lg a (n - a) :: cv (a + lg a (n - a)) n else []
termination_by n - a
decreasing_by have := lg_pos a (n - a); omega
theorem cv_few {a n : Nat} (h : ¬ a < n) : cv a n = [] := by rw [cv, if_neg h]
theorem cv_more {a n : Nat} (h : a < n) : cv a n = lg a (n - a) :: cv (a + lg a (n - a)) n := by rw [cv, if_pos h]

/-- The place of the k-th. -/
def pl (m n k : Nat) : Nat := m + ((cv m n).take k).sum
theorem pl_zero (m n : Nat) : pl m n 0 = m := by simp [pl]
theorem sum_take (l : List Nat) (k : Nat) (h : k < l.length) : (l.take (k + 1)).sum = (l.take k).sum + l[k] := by
  rw [List.take_add_one, List.getElem?_eq_getElem h, List.sum_append]
  simp only [Option.toList_some, List.sum_cons, List.sum_nil, Nat.add_zero]
theorem pl_succ (m n k : Nat) (h : k < (cv m n).length) : pl m n (k + 1) = pl m n k + (cv m n)[k] := by
  unfold pl
  rw [sum_take _ _ h, Nat.add_assoc]
theorem cv_at (m n : Nat) (hmn : m ≤ n) : ∀ k, k ≤ (cv m n).length → (cv m n).drop k = cv (pl m n k) n ∧ pl m n k ≤ n := by
  intro k
  induction k with
  | zero => intro _; rw [pl_zero]; exact ⟨by simp, hmn⟩
  | succ k ih =>
    intro hk
    obtain ⟨h1, h2⟩ := ih (by omega)
    have hlt : pl m n k < n := by
      refine Decidable.byContradiction fun hn => ?_
      rw [cv_few hn, List.drop_eq_nil_iff] at h1
      omega
    rw [List.drop_eq_getElem_cons (show k < (cv m n).length by omega), cv_more hlt] at h1
    obtain ⟨h3, h4⟩ := List.cons.inj h1
    have h5 : pl m n (k + 1) = pl m n k + lg (pl m n k) (n - pl m n k) := by
      rw [← h3]
      exact pl_succ m n k (by omega)
    have h6 := lg_le (pl m n k) (n - pl m n k) (by omega)
    rw [h5]
    exact ⟨h4, by omega⟩
theorem cv_step (m n k : Nat) (hmn : m ≤ n) (hk : k < (cv m n).length) : pl m n k < n ∧ (cv m n)[k]? = some (lg (pl m n k) (n - pl m n k)) ∧ pl m n (k + 1) = pl m n k + lg (pl m n k) (n - pl m n k) := by
  obtain ⟨h1, h2⟩ := cv_at m n hmn k (by omega)
  have hlt : pl m n k < n := by
    refine Decidable.byContradiction fun hn => ?_
    rw [cv_few hn, List.drop_eq_nil_iff] at h1
    omega
  rw [List.drop_eq_getElem_cons hk, cv_more hlt] at h1
  obtain ⟨h3, h4⟩ := List.cons.inj h1
  refine ⟨hlt, by rw [List.getElem?_eq_getElem hk, h3], ?_⟩
  rw [← h3]
  exact pl_succ m n k hk
theorem cv_end (m n : Nat) (hmn : m ≤ n) : pl m n (cv m n).length = n := by
  obtain ⟨h1, h2⟩ := cv_at m n hmn _ (Nat.le_refl _)
  rw [List.drop_length] at h1
  refine Decidable.byContradiction fun hn => ?_
  rw [cv_more (show pl m n (cv m n).length < n by omega)] at h1
  cases h1

theorem cv_down (n : Nat) (hn : n ≤ 4096) : ∀ k a, 2 ^ k ∣ a → n - a < 2 ^ k → (cv a n).length ≤ k := by
  intro k
  induction k using Nat.strongRecOn with
  | _ k ih =>
    intro a ha hl
    by_cases h : a < n
    · have hu := log2_lt (n - a) k (by omega) hl
      have e : lg a (n - a) = 2 ^ (n - a).log2 := by
        unfold lg
        by_cases h0 : a = 0
        · rw [if_pos h0]; rfl
        · rw [if_neg h0]
          have := tz_max a k (by omega) (by omega) ha
          exact Nat.min_eq_right (Nat.pow_le_pow_right (by decide) (by omega))
      have h1 := lt_hi (n - a)
      have h2 := hi_le (n - a) (by omega)
      rw [hi_is] at h1 h2
      rw [cv_more h, e, List.length_cons]
      have := ih (n - a).log2 hu (a + 2 ^ (n - a).log2) (Nat.dvd_add (Nat.dvd_trans (pow_dvd (by omega)) ha) (Nat.dvd_refl _)) (by omega)
      omega
    · rw [cv_few h]; exact Nat.zero_le _
theorem cv_up (n : Nat) (hn : n ≤ 4096) : ∀ d j a, j + d = 12 → 2 ^ j ∣ a → (cv a n).length ≤ d + 13 := by
  intro d
  induction d with
  | zero =>
    intro j a hj ha
    obtain rfl : j = 12 := by omega
    by_cases h : a < n
    · obtain rfl : a = 0 := by
        obtain ⟨q, rfl⟩ := ha
        cases q with
        | zero => rfl
        | succ q => rw [Nat.mul_succ] at h; omega
      have := cv_down n hn 13 0 (Nat.dvd_zero _) (by omega)
      omega
    · rw [cv_few h]; exact Nat.zero_le _
  | succ d ih =>
    intro j a hj ha
    by_cases h : a < n
    · by_cases h0 : a = 0
      · subst h0
        have := cv_down n hn 13 0 (Nat.dvd_zero _) (by omega)
        omega
      · have ht := tz_max a j (by omega) (by omega) ha
        have ht2 := tz_lt a (by omega) (by omega)
        rw [cv_more h, List.length_cons]
        by_cases hx : tz a ≤ (n - a).log2
        · have e : lg a (n - a) = 2 ^ tz a := by
            unfold lg
            rw [if_neg h0, hi_is]
            exact Nat.min_eq_left (Nat.pow_le_pow_right (by decide) hx)
          rw [e]
          obtain ⟨q, hq⟩ := tz_odd a (by omega) (by omega)
          have hd : 2 ^ (tz a + 1) ∣ a + 2 ^ tz a := ⟨q + 1, by
            generalize tz a = t at *
            rw [hq, Nat.pow_succ, Nat.mul_assoc, show 2 * (q + 1) = 2 * q + 1 + 1 by omega]
            simp only [Nat.mul_add, Nat.mul_one, Nat.add_assoc]⟩
          have := ih (j + 1) (a + 2 ^ tz a) (by omega) (Nat.dvd_trans (pow_dvd (by omega)) hd)
          omega
        · have e : lg a (n - a) = 2 ^ (n - a).log2 := by
            unfold lg
            rw [if_neg h0, hi_is]
            exact Nat.min_eq_right (Nat.pow_le_pow_right (by decide) (by omega))
          have h1 := lt_hi (n - a)
          have h2 := hi_le (n - a) (by omega)
          rw [hi_is] at h1 h2
          rw [e]
          have := cv_down n hn (n - a).log2 (a + 2 ^ (n - a).log2) (Nat.dvd_add (Nat.dvd_trans (pow_dvd (by omega)) (tz_dvd a)) (Nat.dvd_refl _)) (by omega)
          omega
    · rw [cv_few h]; exact Nat.zero_le _
theorem cv_len (m n : Nat) (hn : n ≤ 4096) : (cv m n).length ≤ 25 := cv_up n hn 12 0 m rfl (Nat.one_dvd m)

/-- What one place with its opposite comes to, bit by bit. -/
theorem low_all : ((List.range 4096).all fun a => a == 0 || bits .and .i64 (a : Int) (-(a : Int)) == ((2 ^ tz a : Nat) : Int)) = true := by decide +kernel
theorem low_is (a : Nat) (h0 : 0 < a) (h : a < 4096) : bits .and .i64 (a : Int) (-(a : Int)) = ((2 ^ tz a : Nat) : Int) := by
  have := List.all_eq_true.1 low_all a (List.mem_range.2 h)
  simp only [Bool.or_eq_true, beq_iff_eq] at this
  rcases this with h1 | h1
  · omega
  · exact h1
end Go.Proofs.Ytdmaipebckbmpaa
