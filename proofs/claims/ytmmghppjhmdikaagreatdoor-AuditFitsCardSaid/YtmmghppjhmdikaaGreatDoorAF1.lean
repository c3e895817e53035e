/- The texts Cal, CalBase, CalMoment, one behind the other. -/
import Derived.Lib.Hide
import Derived.Test.YtmmghppjhmdikaaGreatDoorRows
import Derived.WalkKit
import Derived.ProofKit
import Derived.Deep.QuietTactic
import Derived.BigQuiet
import Derived.Deep.RegionWith
import Derived.Lib.LaidTab
/- Days of the calendar as whole numbers: leap years, months' lengths, days ahead of a year and of a month, which dates are right, their nanoseconds. No program is spoken of. -/
namespace Go.Proofs.YtmmghppjhmdikaaGreatDoor.Cal

def leapB (y : Int) : Bool := decide ((y % 4 = 0 ∧ y % 100 ≠ 0) ∨ y % 400 = 0)
def lp (y : Int) : Int := if leapB y = true then 1 else 0
theorem lp_01 (y : Int) : 0 ≤ lp y ∧ lp y ≤ 1 := by unfold lp; split <;> omega
/-- How many days a month has. -/
def lenI (y m : Int) : Int :=
  if m = 2 then 28 + lp y else if m = 4 ∨ m = 6 ∨ m = 9 ∨ m = 11 then 30 else if 1 ≤ m ∧ m ≤ 12 then 31 else 0
theorem lenI_bd (y m : Int) : 0 ≤ lenI y m ∧ lenI y m ≤ 31 := by
  have := lp_01 y
  unfold lenI; split
  · omega
  · split
    · omega
    · split <;> omega
theorem lenI_pos (y m : Int) (h1 : 1 ≤ m) (h2 : m ≤ 12) : 28 ≤ lenI y m := by
  have := lp_01 y
  unfold lenI; split
  · omega
  · split
    · omega
    · rw [if_pos ⟨h1, h2⟩]; omega
theorem lenI_none (y m : Int) (h : ¬ (1 ≤ m ∧ m ≤ 12)) : lenI y m = 0 := by
  unfold lenI; rw [if_neg (by omega), if_neg (by omega), if_neg h]
/-- The table of the lengths. -/
def lens : List Int := [31, 28, 31, 30, 31, 30, 31, 31, 30, 31, 30, 31]
theorem month_cases (m : Int) (h1 : 1 ≤ m) (h2 : m ≤ 12) : m = 1 ∨ m = 2 ∨ m = 3 ∨ m = 4 ∨ m = 5 ∨ m = 6 ∨ m = 7 ∨ m = 8 ∨ m = 9 ∨ m = 10 ∨ m = 11 ∨ m = 12 := by omega
theorem lens_at (y m : Int) (h1 : 1 ≤ m) (h2 : m ≤ 12) : lenI y m = lens.getD (m.toNat - 1) 0 + (if m = 2 then lp y else 0) := by
  rcases month_cases m h1 h2 with rfl | rfl | rfl | rfl | rfl | rfl | rfl | rfl | rfl | rfl | rfl | rfl <;> rfl
theorem lens_bd (k : Nat) : 0 ≤ lens.getD k 0 ∧ lens.getD k 0 ≤ 31 := by
  rcases k with _ | _ | _ | _ | _ | _ | _ | _ | _ | _ | _ | _ | k <;> simp [lens]

/-- Days of all years from 1 on ahead of a year. -/
def dby (y : Int) : Int := 365 * (y - 1) + (y - 1) / 4 - (y - 1) / 100 + (y - 1) / 400
theorem dby_bd (y : Int) (h0 : 1 ≤ y) (h : y ≤ 10000) : 0 ≤ dby y ∧ dby y ≤ 3652425 := by unfold dby; omega
theorem dby_mono (a b : Int) (h : a ≤ b) : dby a ≤ dby b := by unfold dby; omega
theorem dby_succ (y : Int) : dby (y + 1) = dby y + 365 + lp y := by
  unfold dby lp leapB
  by_cases h : (y % 4 = 0 ∧ y % 100 ≠ 0) ∨ y % 400 = 0
  · rw [if_pos (decide_eq_true h)]; omega
  · rw [if_neg (by simpa using h)]; omega
theorem dby_1970 : dby 1970 = 719162 := by decide
theorem dby_1700 : dby 1700 = 620547 := by decide
theorem dby_2250 : dby 2250 = 821430 := by decide
theorem dby_2251 : dby 2251 = 821795 := by decide
theorem dby_range (y : Int) (h1 : 1700 ≤ y) (h2 : y ≤ 2250) : 620547 ≤ dby y ∧ dby y ≤ 821430 := by
  have a := dby_mono 1700 y h1
  have b := dby_mono y 2250 h2
  rw [dby_1700] at a; rw [dby_2250] at b
  exact ⟨a, b⟩
/-- Days of the months ahead of one. -/
def cum (y m : Int) : Int :=
  (if m ≤ 1 then 0 else if m = 2 then 31 else if m = 3 then 59 else if m = 4 then 90 else if m = 5 then 120 else if m = 6 then 151 else if m = 7 then 181 else if m = 8 then 212 else if m = 9 then 243 else if m = 10 then 273 else if m = 11 then 304 else if m = 12 then 334 else 365) + (if 3 ≤ m then lp y else 0)
theorem cum_one (y : Int) : cum y 1 = 0 := rfl
theorem cum_13 (y : Int) : cum y 13 = 365 + lp y := rfl
theorem cum_succ (y m : Int) (h1 : 1 ≤ m) (h2 : m ≤ 12) : cum y (m + 1) = cum y m + lenI y m := by
  rcases month_cases m h1 h2 with rfl | rfl | rfl | rfl | rfl | rfl | rfl | rfl | rfl | rfl | rfl | rfl <;> simp [cum, lenI] <;> omega
theorem cum_bd (y m : Int) (h1 : 1 ≤ m) (h2 : m ≤ 12) : 0 ≤ cum y m ∧ cum y m + lenI y m ≤ 365 + lp y := by
  have := lp_01 y
  rcases month_cases m h1 h2 with rfl | rfl | rfl | rfl | rfl | rfl | rfl | rfl | rfl | rfl | rfl | rfl <;> simp [cum, lenI] <;> omega

/-- Is a date right? -/
def rightB (y m d h i s n z : Int) : Bool :=
  decide ((1700 ≤ y ∧ y ≤ 2250) ∧ (1 ≤ d ∧ d ≤ lenI y m) ∧ (0 ≤ h ∧ h ≤ 23) ∧ (0 ≤ i ∧ i ≤ 59) ∧ (0 ≤ s ∧ s ≤ 59) ∧ (0 ≤ n ∧ n ≤ 999999999) ∧ n % 1000 = 0 ∧ (-1439 ≤ z ∧ z ≤ 1439))
theorem right_iff (y m d h i s n z : Int) : rightB y m d h i s n z = true ↔
    (1700 ≤ y ∧ y ≤ 2250) ∧ (1 ≤ d ∧ d ≤ lenI y m) ∧ (0 ≤ h ∧ h ≤ 23) ∧ (0 ≤ i ∧ i ≤ 59) ∧ (0 ≤ s ∧ s ≤ 59) ∧ (0 ≤ n ∧ n ≤ 999999999) ∧ n % 1000 = 0 ∧ (-1439 ≤ z ∧ z ≤ 1439) := by
  unfold rightB; exact decide_eq_true_iff
theorem month_of_day {y m d : Int} (h1 : 1 ≤ d) (h2 : d ≤ lenI y m) : 1 ≤ m ∧ m ≤ 12 := by
  by_cases h : 1 ≤ m ∧ m ≤ 12
  · exact h
  · rw [lenI_none y m h] at h2; omega
theorem right_month {y m d h i s n z : Int} (hr : rightB y m d h i s n z = true) : 1 ≤ m ∧ m ≤ 12 := by
  obtain ⟨_, hd, _⟩ := (right_iff ..).1 hr
  exact month_of_day hd.1 hd.2
/-- The days of a date behind the first one of 1970. -/
def daysI (y m d : Int) : Int := dby y - 719162 + d - 1 + cum y m
theorem daysI_bd {y m d : Int} (h1 : 1700 ≤ y) (h2 : y ≤ 2250) (h3 : 1 ≤ d) (h4 : d ≤ lenI y m) : -98615 ≤ daysI y m d ∧ daysI y m d ≤ 102632 := by
  obtain ⟨m1, m2⟩ := month_of_day h3 h4
  have c := cum_bd y m m1 m2
  have r := dby_mono 1700 y h1
  have s := dby_succ y
  have t := dby_mono (y + 1) 2251 (by omega)
  rw [dby_1700] at r; rw [dby_2251] at t
  unfold daysI
  omega
/-- A date's nanoseconds. -/
def nanosI (y m d h i s n z : Int) : Int := daysI y m d * 86400000000000 + h * 3600000000000 + (i - z) * 60000000000 + s * 1000000000 + n
end Go.Proofs.YtmmghppjhmdikaaGreatDoor.Cal
/- What the small functions of package cal answer, in a world in which the table of months' lengths stands: leap years, lengths, right dates, days, nanoseconds. All memory that was there stays. -/
namespace Go.Proofs.YtmmghppjhmdikaaGreatDoor.Cal
open Go.ChangeShapes Go.WideShapes Go.ChangeAt Go.RowKit

/-- The table of the months' lengths stands in block 4. -/
def Tab (w : World) : Prop := 5 < w.heap.size ∧ ∀ i : Nat, i < 12 → w.cell? ⟨5, i, none⟩ = some (.int .i64 (lens.getD i 0))
theorem Tab.below {w w' : World} (h : Tab w) (b : Below w.heap.size w w') : Tab w' :=
  ⟨Nat.lt_of_lt_of_le h.1 b.size, fun i hi => by rw [b.cell (p := ⟨5, i, none⟩) h.1]; exact h.2 i hi⟩
theorem Tab.alloc {w : World} (h : Tab w) (o) : Tab (w.alloc o) := h.below ((Below.refl _ _).alloc (Nat.le_refl _) _)
theorem drewN_below (w : World) (n : Nat) : Below w.heap.size w (w.drewN n) := ⟨rfl, rfl, rfl, Nat.le_refl _, fun _ _ => rfl⟩

def withinB (n a b : Int) : Bool := decide (a ≤ n ∧ n ≤ b)
theorem within_any (n a b : Int) (w : World) :
    Calls Tryz.prog 65 #[.int .i64 n, .int .i64 a, .int .i64 b] w fun e w' => e = .returned (.bool (withinB n a b)) ∧ w' = w := by
  have hd : withinB n a b = (decide (a ≤ n) && decide (n ≤ b)) := by unfold withinB; simp
  rw [hd]
  by_cases h : a ≤ n
  · go_enter Tryz.func65, Tryz.ntmps65
    go_wp2
    go_ret
    simp [h]
  · go_enter Tryz.func65, Tryz.ntmps65
    go_wp2
    go_ret
    simp
    omega

theorem tmod_zero (y k : Int) : (y.tmod k == 0) = decide (y % k = 0) := by
  rw [Bool.eq_iff_iff, beq_iff_eq, decide_eq_true_iff]
  exact ⟨fun h => Int.emod_eq_zero_of_dvd (Int.dvd_of_tmod_eq_zero h), fun h => Int.tmod_eq_zero_of_dvd (Int.dvd_of_emod_eq_zero h)⟩
theorem tmod_nonzero (y k : Int) : (y.tmod k != 0) = decide (y % k ≠ 0) := by
  have := tmod_zero y k
  simp only [bne, this, decide_not]
theorem leap_any (y : Int) (w : World) :
    Calls Tryz.prog 115 #[.int .i64 y] w fun e w' => e = .returned (.bool (leapB y)) ∧ w' = w := by
  have e1 := tmod_zero y 4
  have e2 := tmod_nonzero y 100
  have e3 := tmod_zero y 400
  have hd : leapB y = (decide (y % 4 = 0) && decide (y % 100 ≠ 0) || decide (y % 400 = 0)) := by unfold leapB; simp
  rw [hd]
  clear hd
  by_cases h1 : y % 4 = 0
  · by_cases h2 : y % 100 ≠ 0
    · rw [decide_eq_true h1] at e1 ⊢
      rw [decide_eq_true h2] at e2 ⊢
      clear h1 h2 e3
      go_enter Tryz.func115, Tryz.ntmps115
      go_wp2
      go_ret
      exact ⟨rfl, rfl⟩
    · rw [decide_eq_true h1] at e1 ⊢
      rw [decide_eq_false h2] at e2 ⊢
      have e4 : decide (y % 400 = 0) = (y.tmod 400 == 0) := e3.symm
      rw [e4]
      clear h1 h2 e3 e4
      go_enter Tryz.func115, Tryz.ntmps115
      go_wp2
      go_ret
      exact ⟨rfl, rfl⟩
  · rw [decide_eq_false h1] at e1 ⊢
    have e4 : decide (y % 400 = 0) = (y.tmod 400 == 0) := e3.symm
    rw [e4]
    clear h1 e3 e4 e2
    go_enter Tryz.func115, Tryz.ntmps115
    go_wp2
    go_ret
    exact ⟨rfl, rfl⟩

theorem length_any (y m : Int) (w : World) (ht : Tab w) :
    Calls Tryz.prog 93 #[.int .i64 y, .int .i64 m] w fun e w' => e = .returned (.int .i64 (lenI y m)) ∧ w' = w := by
  by_cases hm : 1 ≤ m ∧ m ≤ 12
  · have hw : withinB m 1 12 = true := decide_eq_true hm
    have hc := ht.2 (m.toNat - 1) (by omega)
    have hc2 := ht.2 1 (by omega)
    have hl := lens_bd (m.toNat - 1)
    have HL := Lib.hid (lens_at y m hm.1 hm.2)
    generalize hv : lens.getD (m.toNat - 1) 0 = v at hc hl HL
    obtain ⟨h1, h2⟩ := hm
    clear ht
    by_cases h : m = 2
    · subst h
      obtain rfl : v = 28 := hv.symm
      clear hc hv
      have hc : w.cell? ⟨5, 1, none⟩ = some (.int .i64 28) := hc2
      clear hc2
      by_cases hy : leapB y = true
      · have e : lenI y 2 = 29 := by have := HL.out; unfold lp at this; rw [if_pos rfl, if_pos hy] at this; omega
        rw [e]
        clear HL e
        go_enter Tryz.func93, Tryz.ntmps93
        go_wp2_with (first
          | (go_at_call 65; refine (within_any _ _ _ _).mono ?_; rintro e w' ⟨rfl, rfl⟩)
          | (go_at_call 115; refine (leap_any _ _).mono ?_; rintro e w' ⟨rfl, rfl⟩))
        go_ret
        exact ⟨rfl, rfl⟩
      · have hf : leapB y = false := by simpa using hy
        have e : lenI y 2 = 28 := by have := HL.out; unfold lp at this; rw [if_pos rfl, if_neg hy] at this; omega
        rw [e]
        clear HL e hy
        go_enter Tryz.func93, Tryz.ntmps93
        go_wp2_with (first
          | (go_at_call 65; refine (within_any _ _ _ _).mono ?_; rintro e w' ⟨rfl, rfl⟩)
          | (go_at_call 115; refine (leap_any _ _).mono ?_; rintro e w' ⟨rfl, rfl⟩))
        go_ret
        exact ⟨rfl, rfl⟩
    · have hf : (m == 2) = false := beq_eq_false_iff_ne.2 h
      have e : lenI y m = v := by have := HL.out; rw [if_neg h] at this; omega
      rw [e]
      clear HL e h hc2 hv
      go_enter Tryz.func93, Tryz.ntmps93
      go_wp2_with (first
        | (go_at_call 65; refine (within_any _ _ _ _).mono ?_; rintro e w' ⟨rfl, rfl⟩)
        | (go_at_call 115; refine (leap_any _ _).mono ?_; rintro e w' ⟨rfl, rfl⟩))
      go_ret
      exact ⟨rfl, rfl⟩
  · have hw : withinB m 1 12 = false := decide_eq_false hm
    rw [lenI_none y m hm]
    go_enter Tryz.func93, Tryz.ntmps93
    go_wp2_with (go_at_call 65; refine (within_any _ _ _ _).mono ?_; rintro e w' ⟨rfl, rfl⟩)
    go_ret
    exact ⟨rfl, rfl⟩

/-! ### Right -/
def dateV (y m d h i s n z : Int) : Value := .agg #[.int .i64 y, .int .i64 m, .int .i64 d, .int .i64 h, .int .i64 i, .int .i64 s, .int .i64 n, .int .i64 z]
theorem tmod_1000 (n : Int) : (n.tmod 1000 != 0) = decide (n % 1000 ≠ 0) := tmod_nonzero n 1000
theorem right_eq (y m d h i s n z : Int) : rightB y m d h i s n z =
    (withinB y 1700 2250 && (withinB d 1 (lenI y m) && (withinB h 0 23 && (withinB i 0 59 && (withinB s 0 59 && (withinB n 0 999999999 && ((!(n.tmod 1000 != 0)) && withinB z (-1439) 1439))))))) := by
  rw [tmod_1000, Bool.eq_iff_iff, right_iff]
  simp [withinB]
theorem right_no_year (y m d h i s n z : Int) (w : World) (h1 : withinB y 1700 2250 = false) :
    Calls Tryz.prog 66 #[.agg #[.int .i64 y, .int .i64 m, .int .i64 d, .int .i64 h, .int .i64 i, .int .i64 s, .int .i64 n, .int .i64 z]] w
      fun e w' => e = .returned (.bool false) ∧ Below w.heap.size w w' := by
  have hb : Below w.heap.size w (w.alloc (.cells #[.int .i64 y, .int .i64 m, .int .i64 d, .int .i64 h, .int .i64 i, .int .i64 s, .int .i64 n, .int .i64 z] 50)) := (Below.refl _ _).alloc (Nat.le_refl _) _
  go_enter Tryz.func66, Tryz.ntmps66
  go_wp2_with (go_at_call 65; refine (within_any _ _ _ _).mono ?_; rintro e w' ⟨rfl, rfl⟩)
  go_ret
  exact ⟨rfl, hb⟩
set_option maxHeartbeats 1000000 in
theorem right_year (y m d h i s n z : Int) (w : World) (ht : Tab w) (h1 : withinB y 1700 2250 = true) :
    Calls Tryz.prog 66 #[.agg #[.int .i64 y, .int .i64 m, .int .i64 d, .int .i64 h, .int .i64 i, .int .i64 s, .int .i64 n, .int .i64 z]] w
      fun e w' => e = .returned (.bool (rightB y m d h i s n z)) ∧ Below w.heap.size w w' := by
  have ht' : Tab (w.alloc (.cells #[.int .i64 y, .int .i64 m, .int .i64 d, .int .i64 h, .int .i64 i, .int .i64 s, .int .i64 n, .int .i64 z] 50)) := ht.alloc _
  have hb : Below w.heap.size w (w.alloc (.cells #[.int .i64 y, .int .i64 m, .int .i64 d, .int .i64 h, .int .i64 i, .int .i64 s, .int .i64 n, .int .i64 z] 50)) := (Below.refl _ _).alloc (Nat.le_refl _) _
  have HR := Lib.hid (right_eq y m d h i s n z)
  generalize rightB y m d h i s n z = R at HR ⊢
  go_enter Tryz.func66, Tryz.ntmps66
  go_wp2_with (go_at_call 65; refine (within_any _ _ _ _).mono ?_; rintro e w' ⟨rfl, rfl⟩)
  go_quiet (first
    | (go_at_call 93; refine Calls.quiet_of_same (length_any _ _ _ ht'))
    | (go_at_call 65; refine Calls.quiet_of_same (within_any _ _ _ _)))
  have hb2 := hb.trans ((drewN_below _ nq).mono (by simp))
  clear hb ht' ht
  go_wp2_with (go_at_call 65; refine (within_any _ _ _ _).mono ?_; rintro e w' ⟨rfl, rfl⟩)
  all_goals go_ret
  all_goals refine ⟨?_, hb2⟩
  all_goals (have hr := HR.out; simp_all)
theorem right_any (y m d h i s n z : Int) (w : World) (ht : Tab w) :
    Calls Tryz.prog 66 #[.agg #[.int .i64 y, .int .i64 m, .int .i64 d, .int .i64 h, .int .i64 i, .int .i64 s, .int .i64 n, .int .i64 z]] w
      fun e w' => e = .returned (.bool (rightB y m d h i s n z)) ∧ Below w.heap.size w w' := by
  by_cases h1 : withinB y 1700 2250 = true
  · exact right_year y m d h i s n z w ht h1
  · have h1' : withinB y 1700 2250 = false := by simpa using h1
    have e : rightB y m d h i s n z = false := by rw [right_eq, h1']; rfl
    rw [e]
    exact right_no_year y m d h i s n z w h1'

/-! ### days -/
theorem ahead_any (y : Int) (w : World) (h1 : 1 ≤ y) (h2 : y ≤ 10000) :
    Calls Tryz.prog 116 #[.int .i64 y] w fun e w' => e = .returned (.int .i64 (dby y)) ∧ w' = w := by
  go_enter Tryz.func116, Tryz.ntmps116
  go_wp2
  go_ret
  exact ⟨rfl, rfl⟩
theorem newYear_any (y : Int) (w : World) (h1 : 1 ≤ y) (h2 : y ≤ 10000) :
    Calls Tryz.prog 94 #[.int .i64 y] w fun e w' => e = .returned (.int .i64 (dby y - 719162)) ∧ w' = w := by
  have hb := dby_bd y h1 h2
  have e := dby_1970
  go_enter Tryz.func94, Tryz.ntmps94
  go_wp2_with (go_at_call 116; refine (ahead_any _ _ (by omega) (by omega)).mono ?_; rintro e w' ⟨rfl, rfl⟩)
  go_ret
  exact ⟨rfl, rfl⟩
theorem days_no (y m d : Int) (w : World) (ht : Tab w) (hr : rightB y m d 0 0 0 0 0 = false) :
    Calls Tryz.prog 67 #[.int .i64 y, .int .i64 m, .int .i64 d] w fun e w' => e = .returned (.tuple #[.int .i64 0, .int .i64 1]) ∧ Below w.heap.size w w' := by
  go_enter Tryz.func67, Tryz.ntmps67
  go_wp2_with (go_at_call 66; refine (right_any _ _ _ _ _ _ _ _ _ ht).mono ?_; rintro e w' ⟨rfl, hb⟩)
  go_ret2
  exact ⟨rfl, hb⟩
set_option maxHeartbeats 1000000 in
theorem days_yes (y m d : Int) (w : World) (ht : Tab w) (hr : rightB y m d 0 0 0 0 0 = true) :
    Calls Tryz.prog 67 #[.int .i64 y, .int .i64 m, .int .i64 d] w fun e w' => e = .returned (.tuple #[.int .i64 (daysI y m d), .int .i64 0]) ∧ Below w.heap.size w w' := by
  obtain ⟨⟨y1, y2⟩, ⟨d1, d2⟩, _⟩ := (right_iff ..).1 hr
  obtain ⟨m1, m2⟩ := month_of_day d1 d2
  have hd := dby_range y y1 y2
  have hl := lenI_bd y m
  go_enter Tryz.func67, Tryz.ntmps67
  go_wp2_with fail
  refine (right_any _ _ _ _ _ _ _ _ _ ht).mono ?_
  rintro e w1 ⟨rfl, hb⟩
  have ht1 := ht.below hb
  clear ht
  go_wp2_with (go_at_call 94; refine (newYear_any _ _ (by omega) (by omega)).mono ?_; rintro e w' ⟨rfl, rfl⟩)
  go_loop [8, 9] (fun n k => ∃ j : Int, 1 ≤ j ∧ j ≤ m ∧ k = .int .i64 j ∧ n = .int .i64 (dby y - 719162 + d - 1 + cum y j)) (fun _ k => (m - intOf k).toNat)
  case atStart => exact ⟨1, by omega, by omega, rfl, by rw [cum_one]; go_num⟩
  case round =>
    obtain ⟨j, j1, j2, rfl, rfl⟩ := hrel
    have cb := cum_bd y j j1 (by omega)
    have lb := lenI_bd y j
    have l1 := lp_01 y
    by_cases hlt : j < m
    · have HC := Lib.hid (cum_succ y j j1 (by omega))
      go_wp2_with (go_at_call 93; refine (length_any _ _ _ ht1).mono ?_; rintro e w' ⟨rfl, rfl⟩)
      go_round
      case rel => exact ⟨j + 1, by omega, by omega, rfl, by rw [HC.out]; go_num⟩
      case measure => simp [intOf]; omega
    · obtain rfl : m = j := by omega
      go_wp2
      go_ret2
      exact ⟨rfl, hb⟩
end Go.Proofs.YtmmghppjhmdikaaGreatDoor.Cal
/- What Nanos answers, and that the document's examples ('shown') hold. Conditions: the table of months' lengths stands. -/
namespace Go.Proofs.YtmmghppjhmdikaaGreatDoor.Cal
open Go.ChangeShapes Go.WideShapes Go.ChangeAt Go.RowKit

theorem nanos_no (y m d h i s n z : Int) (w : World) (ht : Tab w) (hr : rightB y m d h i s n z = false) :
    Calls Tryz.prog 45 #[.agg #[.int .i64 y, .int .i64 m, .int .i64 d, .int .i64 h, .int .i64 i, .int .i64 s, .int .i64 n, .int .i64 z]] w
      fun e w' => e = .returned (.tuple #[.int .i64 0, .int .i64 1]) ∧ Below w.heap.size w w' := by
  have hb : Below w.heap.size w (w.alloc (.cells #[.int .i64 y, .int .i64 m, .int .i64 d, .int .i64 h, .int .i64 i, .int .i64 s, .int .i64 n, .int .i64 z] 50)) := (Below.refl _ _).alloc (Nat.le_refl _) _
  have ht1 := ht.below hb
  go_enter Tryz.func45, Tryz.ntmps45
  go_wp2_with (go_at_call 66; refine (right_any _ _ _ _ _ _ _ _ _ ht1).mono ?_; rintro e w' ⟨rfl, hb2⟩)
  go_ret2
  exact ⟨rfl, hb.trans (hb2.mono (by simp))⟩
theorem bcell {W w1 : World} (hb : Below W.heap.size W w1) : (∀ b o, b < W.heap.size → w1.cell? ⟨b, o, none⟩ = W.cell? ⟨b, o, none⟩) ∧ (∀ b o, b < W.heap.size → w1.frozen? ⟨b, o, none⟩ = W.frozen? ⟨b, o, none⟩) :=
  ⟨fun b o h => hb.cell (p := ⟨b, o, none⟩) h, fun b o h => hb.frozen (p := ⟨b, o, none⟩) h⟩
theorem nanosI_bd {y m d h i s n z : Int} (hr : rightB y m d h i s n z = true) : -8520336000000000000 - 86340000000000 ≤ nanosI y m d h i s n z ∧ nanosI y m d h i s n z < 8867491200000000000 + 86340000000000 := by
  obtain ⟨⟨y1, y2⟩, ⟨d1, d2⟩, ⟨h1, h2⟩, ⟨i1, i2⟩, ⟨s1, s2⟩, ⟨n1, n2⟩, _, ⟨z1, z2⟩⟩ := (right_iff ..).1 hr
  have := daysI_bd y1 y2 d1 d2
  unfold nanosI
  generalize daysI y m d = D at this ⊢
  omega
set_option maxHeartbeats 1000000 in
theorem nanos_yes (y m d h i s n z : Int) (w : World) (ht : Tab w) (hr : rightB y m d h i s n z = true) :
    Calls Tryz.prog 45 #[.agg #[.int .i64 y, .int .i64 m, .int .i64 d, .int .i64 h, .int .i64 i, .int .i64 s, .int .i64 n, .int .i64 z]] w
      fun e w' => e = .returned (.tuple #[.int .i64 (nanosI y m d h i s n z), .int .i64 0]) ∧ Below w.heap.size w w' := by
  obtain ⟨⟨y1, y2⟩, ⟨d1, d2⟩, ⟨h1, h2⟩, ⟨i1, i2⟩, ⟨s1, s2⟩, ⟨n1, n2⟩, _, ⟨z1, z2⟩⟩ := (right_iff ..).1 hr
  have hd := daysI_bd y1 y2 d1 d2
  have hr0 : rightB y m d 0 0 0 0 0 = true := (right_iff ..).2 ⟨⟨y1, y2⟩, ⟨d1, d2⟩, by omega⟩
  have hb : Below w.heap.size w (w.alloc (.cells #[.int .i64 y, .int .i64 m, .int .i64 d, .int .i64 h, .int .i64 i, .int .i64 s, .int .i64 n, .int .i64 z] 50)) := (Below.refl _ _).alloc (Nat.le_refl _) _
  have ht1 := ht.below hb
  go_enter Tryz.func45, Tryz.ntmps45
  go_wp2_with fail
  refine (right_any _ _ _ _ _ _ _ _ _ ht1).mono ?_
  rintro e w2 ⟨rfl, hb2⟩
  have ht2 := ht1.below hb2
  have B2 : Below w.heap.size w w2 := hb.trans (hb2.mono (by simp))
  obtain ⟨hc2, hf2⟩ := bcell hb2
  clear ht ht1
  go_wp2_with fail
  refine (days_yes _ _ _ _ ht2 hr0).mono ?_
  rintro e w3 ⟨rfl, hb3⟩
  have B3 : Below w.heap.size w w3 := B2.trans (hb3.mono B2.size)
  obtain ⟨hc3, hf3⟩ := bcell hb3
  have hz : w.heap.size < w2.heap.size := by have := hb2.size; simp at this; omega
  clear ht2
  have HN := Lib.hid (show nanosI y m d h i s n z = daysI y m d * 86400000000000 + h * 3600000000000 + (i - z) * 60000000000 + s * 1000000000 + n from rfl)
  generalize daysI y m d = D at hd HN ⊢
  clear hr hr0 hb hb2 hb3 y1 y2 d1 d2 B2
  go_wp2
  go_ret2
  exact ⟨by rw [HN.out]; rfl, B3⟩

end Go.Proofs.YtmmghppjhmdikaaGreatDoor.Cal
