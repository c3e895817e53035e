/- Days of the calendar as whole numbers: leap years, months' lengths, days ahead of a year and of a month, which dates are right, their nanoseconds. No program is spoken of. -/
import Derived.Lib.Hide
namespace Go.Proofs.YtnaijahhogndjaaGreatDoor.Cal

def leapB (y : Int) : Bool := decide ((y % 4 = 0 ∧ y % 100 ≠ 0) ∨ y % 400 = 0)
def lp (y : Int) : Int := if leapB y = true then 1 else 0
theorem lp_01 (y : Int) : 0 ≤ lp y ∧ lp y ≤ 1 := by unfold lp; split <;> omega
/-- How many days a month has. -/
def lenI (y m : Int) : Int :=
  if m = 2 then 28 + lp y else if m = 4 ∨ m = 6 ∨ m = 9 ∨ m = 11 then 30 else if 1 ≤ m ∧ m ≤ 12 then 31 else 0
theorem lenI_bd (y m : Int) : 0 ≤ lenI y m ∧ lenI y m ≤ 31 := by
  have := lp_01 y
  unfold lenI; split
  · omega
  · split
    · omega
    · split <;> omega
theorem lenI_pos (y m : Int) (h1 : 1 ≤ m) (h2 : m ≤ 12) : 28 ≤ lenI y m := by
  have := lp_01 y
  unfold lenI; split
  · omega
  · split
    · omega
    · rw [if_pos ⟨h1, h2⟩]; omega
theorem lenI_none (y m : Int) (h : ¬ (1 ≤ m ∧ m ≤ 12)) : lenI y m = 0 := by
  unfold lenI; rw [if_neg (by omega), if_neg (by omega), if_neg h]
/-- The table of the lengths. -/
def lens : List Int := [31, 28, 31, 30, 31, 30, 31, 31, 30, 31, 30, 31]
theorem month_cases (m : Int) (h1 : 1 ≤ m) (h2 : m ≤ 12) : m = 1 ∨ m = 2 ∨ m = 3 ∨ m = 4 ∨ m = 5 ∨ m = 6 ∨ m = 7 ∨ m = 8 ∨ m = 9 ∨ m = 10 ∨ m = 11 ∨ m = 12 := by omega
theorem lens_at (y m : Int) (h1 : 1 ≤ m) (h2 : m ≤ 12) : lenI y m = lens.getD (m.toNat - 1) 0 + (if m = 2 then lp y else 0) := by
  rcases month_cases m h1 h2 with rfl | rfl | rfl | rfl | rfl | rfl | rfl | rfl | rfl | rfl | rfl | rfl <;> rfl
theorem lens_bd (k : Nat) : 0 ≤ lens.getD k 0 ∧ lens.getD k 0 ≤ 31 := by
  rcases k with _ | _ | _ | _ | _ | _ | _ | _ | _ | _ | _ | _ | k <;> simp [lens]

/-- Days of all years from 1 on ahead of a year. -/
def dby (y : Int) : Int := 365 * (y - 1) + (y - 1) / 4 - (y - 1) / 100 + (y - 1) / 400
theorem dby_bd (y : Int) (h0 : 1 ≤ y) (h : y ≤ 10000) : 0 ≤ dby y ∧ dby y ≤ 3652425 := by unfold dby; omega
theorem dby_mono (a b : Int) (h : a ≤ b) : dby a ≤ dby b := by unfold dby; omega
theorem dby_succ (y : Int) : dby (y + 1) = dby y + 365 + lp y := by
  unfold dby lp leapB
  by_cases h : (y % 4 = 0 ∧ y % 100 ≠ 0) ∨ y % 400 = 0
  · rw [if_pos (decide_eq_true h)]; omega
  · rw [if_neg (by simpa using h)]; omega
theorem dby_1970 : dby 1970 = 719162 := by decide
theorem dby_1700 : dby 1700 = 620547 := by decide
theorem dby_2250 : dby 2250 = 821430 := by decide
theorem dby_2251 : dby 2251 = 821795 := by decide
theorem dby_range (y : Int) (h1 : 1700 ≤ y) (h2 : y ≤ 2250) : 620547 ≤ dby y ∧ dby y ≤ 821430 := by
  have a := dby_mono 1700 y h1
  have b := dby_mono y 2250 h2
  rw [dby_1700] at a; rw [dby_2250] at b
  exact ⟨a, b⟩
/-- Days of the months ahead of one. -/
def cum (y m : Int) : Int :=
  (if m ≤ 1 then 0 else if m = 2 then 31 else if m = 3 then 59 else if m = 4 then 90 else if m = 5 then 120 else if m = 6 then 151 else if m = 7 then 181 else if m = 8 then 212 else if m = 9 then 243 else if m = 10 then 273 else if m = 11 then 304 else if m = 12 then 334 else 365) + (if 3 ≤ m then lp y else 0)
theorem cum_one (y : Int) : cum y 1 = 0 := rfl
theorem cum_13 (y : Int) : cum y 13 = 365 + lp y := rfl
theorem cum_succ (y m : Int) (h1 : 1 ≤ m) (h2 : m ≤ 12) : cum y (m + 1) = cum y m + lenI y m := by
  rcases month_cases m h1 h2 with rfl | rfl | rfl | rfl | rfl | rfl | rfl | rfl | rfl | rfl | rfl | rfl <;> simp [cum, lenI] <;> omega
theorem cum_bd (y m : Int) (h1 : 1 ≤ m) (h2 : m ≤ 12) : 0 ≤ cum y m ∧ cum y m + lenI y m ≤ 365 + lp y := by
  have := lp_01 y
  rcases month_cases m h1 h2 with rfl | rfl | rfl | rfl | rfl | rfl | rfl | rfl | rfl | rfl | rfl | rfl <;> simp [cum, lenI] <;> omega

/-- Is a date right? -/
def rightB (y m d h i s n z : Int) : Bool :=
  decide ((1700 ≤ y ∧ y ≤ 2250) ∧ (1 ≤ d ∧ d ≤ lenI y m) ∧ (0 ≤ h ∧ h ≤ 23) ∧ (0 ≤ i ∧ i ≤ 59) ∧ (0 ≤ s ∧ s ≤ 59) ∧ (0 ≤ n ∧ n ≤ 999999999) ∧ n % 1000 = 0 ∧ (-1439 ≤ z ∧ z ≤ 1439))
theorem right_iff (y m d h i s n z : Int) : rightB y m d h i s n z = true ↔
    (1700 ≤ y ∧ y ≤ 2250) ∧ (1 ≤ d ∧ d ≤ lenI y m) ∧ (0 ≤ h ∧ h ≤ 23) ∧ (0 ≤ i ∧ i ≤ 59) ∧ (0 ≤ s ∧ s ≤ 59) ∧ (0 ≤ n ∧ n ≤ 999999999) ∧ n % 1000 = 0 ∧ (-1439 ≤ z ∧ z ≤ 1439) := by
  unfold rightB; exact decide_eq_true_iff
theorem month_of_day {y m d : Int} (h1 : 1 ≤ d) (h2 : d ≤ lenI y m) : 1 ≤ m ∧ m ≤ 12 := by
  by_cases h : 1 ≤ m ∧ m ≤ 12
  · exact h
  · rw [lenI_none y m h] at h2; omega
theorem right_month {y m d h i s n z : Int} (hr : rightB y m d h i s n z = true) : 1 ≤ m ∧ m ≤ 12 := by
  obtain ⟨_, hd, _⟩ := (right_iff ..).1 hr
  exact month_of_day hd.1 hd.2
/-- The days of a date behind the first one of 1970. -/
def daysI (y m d : Int) : Int := dby y - 719162 + d - 1 + cum y m
theorem daysI_bd {y m d : Int} (h1 : 1700 ≤ y) (h2 : y ≤ 2250) (h3 : 1 ≤ d) (h4 : d ≤ lenI y m) : -98615 ≤ daysI y m d ∧ daysI y m d ≤ 102632 := by
  obtain ⟨m1, m2⟩ := month_of_day h3 h4
  have c := cum_bd y m m1 m2
  have r := dby_mono 1700 y h1
  have s := dby_succ y
  have t := dby_mono (y + 1) 2251 (by omega)
  rw [dby_1700] at r; rw [dby_2251] at t
  unfold daysI
  omega
/-- A date's nanoseconds. -/
def nanosI (y m d h i s n z : Int) : Int := daysI y m d * 86400000000000 + h * 3600000000000 + (i - z) * 60000000000 + s * 1000000000 + n
end Go.Proofs.YtnaijahhogndjaaGreatDoor.Cal
