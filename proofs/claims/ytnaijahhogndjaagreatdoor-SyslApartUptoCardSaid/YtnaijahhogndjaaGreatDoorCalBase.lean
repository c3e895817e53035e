/- What the small functions of package cal answer, in a world in which the table of months' lengths stands: leap years, lengths, right dates, days, nanoseconds. All memory that was there stays. -/
import Derived.Test.YtnaijahhogndjaaGreatDoorRows
import Derived.Test.YtnaijahhogndjaaGreatDoorCal
import Derived.WalkKit
import Derived.ProofKit
import Derived.Lib.Hide
import Derived.Deep.QuietTactic
import Derived.BigQuiet
import Derived.Deep.RegionWith
import Derived.Lib.LaidTab
namespace Go.Proofs.YtnaijahhogndjaaGreatDoor.Cal
open Go.ChangeShapes Go.WideShapes Go.ChangeAt Go.RowKit

/-- The table of the months' lengths stands in block 4. -/
def Tab (w : World) : Prop := 4 < w.heap.size ∧ ∀ i : Nat, i < 12 → w.cell? ⟨4, i, none⟩ = some (.int .i64 (lens.getD i 0))
theorem Tab.below {w w' : World} (h : Tab w) (b : Below w.heap.size w w') : Tab w' :=
  ⟨Nat.lt_of_lt_of_le h.1 b.size, fun i hi => by rw [b.cell (p := ⟨4, i, none⟩) h.1]; exact h.2 i hi⟩
theorem Tab.alloc {w : World} (h : Tab w) (o) : Tab (w.alloc o) := h.below ((Below.refl _ _).alloc (Nat.le_refl _) _)
theorem drewN_below (w : World) (n : Nat) : Below w.heap.size w (w.drewN n) := ⟨rfl, rfl, rfl, Nat.le_refl _, fun _ _ => rfl⟩

def withinB (n a b : Int) : Bool := decide (a ≤ n ∧ n ≤ b)
theorem within_any (n a b : Int) (w : World) :
    Calls Tryz.prog 114 #[.int .i64 n, .int .i64 a, .int .i64 b] w fun e w' => e = .returned (.bool (withinB n a b)) ∧ w' = w := by
  have hd : withinB n a b = (decide (a ≤ n) && decide (n ≤ b)) := by unfold withinB; simp
  rw [hd]
  by_cases h : a ≤ n
  · go_enter Tryz.func114, Tryz.ntmps114
    go_wp2
    go_ret
    simp [h]
  · go_enter Tryz.func114, Tryz.ntmps114
    go_wp2
    go_ret
    simp
    omega

theorem tmod_zero (y k : Int) : (y.tmod k == 0) = decide (y % k = 0) := by
  rw [Bool.eq_iff_iff, beq_iff_eq, decide_eq_true_iff]
  exact ⟨fun h => Int.emod_eq_zero_of_dvd (Int.dvd_of_tmod_eq_zero h), fun h => Int.tmod_eq_zero_of_dvd (Int.dvd_of_emod_eq_zero h)⟩
theorem tmod_nonzero (y k : Int) : (y.tmod k != 0) = decide (y % k ≠ 0) := by
  have := tmod_zero y k
  simp only [bne, this, decide_not]
theorem leap_any (y : Int) (w : World) :
    Calls Tryz.prog 160 #[.int .i64 y] w fun e w' => e = .returned (.bool (leapB y)) ∧ w' = w := by
  have e1 := tmod_zero y 4
  have e2 := tmod_nonzero y 100
  have e3 := tmod_zero y 400
  have hd : leapB y = (decide (y % 4 = 0) && decide (y % 100 ≠ 0) || decide (y % 400 = 0)) := by unfold leapB; simp
  rw [hd]
  clear hd
  by_cases h1 : y % 4 = 0
  · by_cases h2 : y % 100 ≠ 0
    · rw [decide_eq_true h1] at e1 ⊢
      rw [decide_eq_true h2] at e2 ⊢
      clear h1 h2 e3
      go_enter Tryz.func160, Tryz.ntmps160
      go_wp2
      go_ret
      exact ⟨rfl, rfl⟩
    · rw [decide_eq_true h1] at e1 ⊢
      rw [decide_eq_false h2] at e2 ⊢
      have e4 : decide (y % 400 = 0) = (y.tmod 400 == 0) := e3.symm
      rw [e4]
      clear h1 h2 e3 e4
      go_enter Tryz.func160, Tryz.ntmps160
      go_wp2
      go_ret
      exact ⟨rfl, rfl⟩
  · rw [decide_eq_false h1] at e1 ⊢
    have e4 : decide (y % 400 = 0) = (y.tmod 400 == 0) := e3.symm
    rw [e4]
    clear h1 e3 e4 e2
    go_enter Tryz.func160, Tryz.ntmps160
    go_wp2
    go_ret
    exact ⟨rfl, rfl⟩

theorem length_any (y m : Int) (w : World) (ht : Tab w) :
    Calls Tryz.prog 127 #[.int .i64 y, .int .i64 m] w fun e w' => e = .returned (.int .i64 (lenI y m)) ∧ w' = w := by
  by_cases hm : 1 ≤ m ∧ m ≤ 12
  · have hw : withinB m 1 12 = true := decide_eq_true hm
    have hc := ht.2 (m.toNat - 1) (by omega)
    have hc2 := ht.2 1 (by omega)
    have hl := lens_bd (m.toNat - 1)
    have HL := Lib.hid (lens_at y m hm.1 hm.2)
    generalize hv : lens.getD (m.toNat - 1) 0 = v at hc hl HL
    obtain ⟨h1, h2⟩ := hm
    clear ht
    by_cases h : m = 2
    · subst h
      obtain rfl : v = 28 := hv.symm
      clear hc hv
      have hc : w.cell? ⟨4, 1, none⟩ = some (.int .i64 28) := hc2
      clear hc2
      by_cases hy : leapB y = true
      · have e : lenI y 2 = 29 := by have := HL.out; unfold lp at this; rw [if_pos rfl, if_pos hy] at this; omega
        rw [e]
        clear HL e
        go_enter Tryz.func127, Tryz.ntmps127
        go_wp2_with (first
          | (go_at_call 114; refine (within_any _ _ _ _).mono ?_; rintro e w' ⟨rfl, rfl⟩)
          | (go_at_call 160; refine (leap_any _ _).mono ?_; rintro e w' ⟨rfl, rfl⟩))
        go_ret
        exact ⟨rfl, rfl⟩
      · have hf : leapB y = false := by simpa using hy
        have e : lenI y 2 = 28 := by have := HL.out; unfold lp at this; rw [if_pos rfl, if_neg hy] at this; omega
        rw [e]
        clear HL e hy
        go_enter Tryz.func127, Tryz.ntmps127
        go_wp2_with (first
          | (go_at_call 114; refine (within_any _ _ _ _).mono ?_; rintro e w' ⟨rfl, rfl⟩)
          | (go_at_call 160; refine (leap_any _ _).mono ?_; rintro e w' ⟨rfl, rfl⟩))
        go_ret
        exact ⟨rfl, rfl⟩
    · have hf : (m == 2) = false := beq_eq_false_iff_ne.2 h
      have e : lenI y m = v := by have := HL.out; rw [if_neg h] at this; omega
      rw [e]
      clear HL e h hc2 hv
      go_enter Tryz.func127, Tryz.ntmps127
      go_wp2_with (first
        | (go_at_call 114; refine (within_any _ _ _ _).mono ?_; rintro e w' ⟨rfl, rfl⟩)
        | (go_at_call 160; refine (leap_any _ _).mono ?_; rintro e w' ⟨rfl, rfl⟩))
      go_ret
      exact ⟨rfl, rfl⟩
  · have hw : withinB m 1 12 = false := decide_eq_false hm
    rw [lenI_none y m hm]
    go_enter Tryz.func127, Tryz.ntmps127
    go_wp2_with (go_at_call 114; refine (within_any _ _ _ _).mono ?_; rintro e w' ⟨rfl, rfl⟩)
    go_ret
    exact ⟨rfl, rfl⟩

/-! ### Right -/
def dateV (y m d h i s n z : Int) : Value := .agg #[.int .i64 y, .int .i64 m, .int .i64 d, .int .i64 h, .int .i64 i, .int .i64 s, .int .i64 n, .int .i64 z]
theorem tmod_1000 (n : Int) : (n.tmod 1000 != 0) = decide (n % 1000 ≠ 0) := tmod_nonzero n 1000
theorem right_eq (y m d h i s n z : Int) : rightB y m d h i s n z =
    (withinB y 1700 2250 && (withinB d 1 (lenI y m) && (withinB h 0 23 && (withinB i 0 59 && (withinB s 0 59 && (withinB n 0 999999999 && ((!(n.tmod 1000 != 0)) && withinB z (-1439) 1439))))))) := by
  rw [tmod_1000, Bool.eq_iff_iff, right_iff]
  simp [withinB]
theorem right_no_year (y m d h i s n z : Int) (w : World) (h1 : withinB y 1700 2250 = false) :
    Calls Tryz.prog 95 #[.agg #[.int .i64 y, .int .i64 m, .int .i64 d, .int .i64 h, .int .i64 i, .int .i64 s, .int .i64 n, .int .i64 z]] w
      fun e w' => e = .returned (.bool false) ∧ Below w.heap.size w w' := by
  have hb : Below w.heap.size w (w.alloc (.cells #[.int .i64 y, .int .i64 m, .int .i64 d, .int .i64 h, .int .i64 i, .int .i64 s, .int .i64 n, .int .i64 z] 62)) := (Below.refl _ _).alloc (Nat.le_refl _) _
  go_enter Tryz.func95, Tryz.ntmps95
  go_wp2_with (go_at_call 114; refine (within_any _ _ _ _).mono ?_; rintro e w' ⟨rfl, rfl⟩)
  go_ret
  exact ⟨rfl, hb⟩
set_option maxHeartbeats 1000000 in
theorem right_year (y m d h i s n z : Int) (w : World) (ht : Tab w) (h1 : withinB y 1700 2250 = true) :
    Calls Tryz.prog 95 #[.agg #[.int .i64 y, .int .i64 m, .int .i64 d, .int .i64 h, .int .i64 i, .int .i64 s, .int .i64 n, .int .i64 z]] w
      fun e w' => e = .returned (.bool (rightB y m d h i s n z)) ∧ Below w.heap.size w w' := by
  have ht' : Tab (w.alloc (.cells #[.int .i64 y, .int .i64 m, .int .i64 d, .int .i64 h, .int .i64 i, .int .i64 s, .int .i64 n, .int .i64 z] 62)) := ht.alloc _
  have hb : Below w.heap.size w (w.alloc (.cells #[.int .i64 y, .int .i64 m, .int .i64 d, .int .i64 h, .int .i64 i, .int .i64 s, .int .i64 n, .int .i64 z] 62)) := (Below.refl _ _).alloc (Nat.le_refl _) _
  have HR := Lib.hid (right_eq y m d h i s n z)
  generalize rightB y m d h i s n z = R at HR ⊢
  go_enter Tryz.func95, Tryz.ntmps95
  go_wp2_with (go_at_call 114; refine (within_any _ _ _ _).mono ?_; rintro e w' ⟨rfl, rfl⟩)
  go_quiet (first
    | (go_at_call 127; refine Calls.quiet_of_same (length_any _ _ _ ht'))
    | (go_at_call 114; refine Calls.quiet_of_same (within_any _ _ _ _)))
  have hb2 := hb.trans ((drewN_below _ nq).mono (by simp))
  clear hb ht' ht
  go_wp2_with (go_at_call 114; refine (within_any _ _ _ _).mono ?_; rintro e w' ⟨rfl, rfl⟩)
  all_goals go_ret
  all_goals refine ⟨?_, hb2⟩
  all_goals (have hr := HR.out; simp_all)
theorem right_any (y m d h i s n z : Int) (w : World) (ht : Tab w) :
    Calls Tryz.prog 95 #[.agg #[.int .i64 y, .int .i64 m, .int .i64 d, .int .i64 h, .int .i64 i, .int .i64 s, .int .i64 n, .int .i64 z]] w
      fun e w' => e = .returned (.bool (rightB y m d h i s n z)) ∧ Below w.heap.size w w' := by
  by_cases h1 : withinB y 1700 2250 = true
  · exact right_year y m d h i s n z w ht h1
  · have h1' : withinB y 1700 2250 = false := by simpa using h1
    have e : rightB y m d h i s n z = false := by rw [right_eq, h1']; rfl
    rw [e]
    exact right_no_year y m d h i s n z w h1'

/-! ### days -/
theorem ahead_any (y : Int) (w : World) (h1 : 1 ≤ y) (h2 : y ≤ 10000) :
    Calls Tryz.prog 129 #[.int .i64 y] w fun e w' => e = .returned (.int .i64 (dby y)) ∧ w' = w := by
  go_enter Tryz.func129, Tryz.ntmps129
  go_wp2
  go_ret
  exact ⟨rfl, rfl⟩
theorem newYear_any (y : Int) (w : World) (h1 : 1 ≤ y) (h2 : y ≤ 10000) :
    Calls Tryz.prog 98 #[.int .i64 y] w fun e w' => e = .returned (.int .i64 (dby y - 719162)) ∧ w' = w := by
  have hb := dby_bd y h1 h2
  have e := dby_1970
  go_enter Tryz.func98, Tryz.ntmps98
  go_wp2_with (go_at_call 129; refine (ahead_any _ _ (by omega) (by omega)).mono ?_; rintro e w' ⟨rfl, rfl⟩)
  go_ret
  exact ⟨rfl, rfl⟩
theorem days_no (y m d : Int) (w : World) (ht : Tab w) (hr : rightB y m d 0 0 0 0 0 = false) :
    Calls Tryz.prog 102 #[.int .i64 y, .int .i64 m, .int .i64 d] w fun e w' => e = .returned (.tuple #[.int .i64 0, .int .i64 1]) ∧ Below w.heap.size w w' := by
  go_enter Tryz.func102, Tryz.ntmps102
  go_wp2_with (go_at_call 95; refine (right_any _ _ _ _ _ _ _ _ _ ht).mono ?_; rintro e w' ⟨rfl, hb⟩)
  go_ret2
  exact ⟨rfl, hb⟩
set_option maxHeartbeats 1000000 in
theorem days_yes (y m d : Int) (w : World) (ht : Tab w) (hr : rightB y m d 0 0 0 0 0 = true) :
    Calls Tryz.prog 102 #[.int .i64 y, .int .i64 m, .int .i64 d] w fun e w' => e = .returned (.tuple #[.int .i64 (daysI y m d), .int .i64 0]) ∧ Below w.heap.size w w' := by
  obtain ⟨⟨y1, y2⟩, ⟨d1, d2⟩, _⟩ := (right_iff ..).1 hr
  obtain ⟨m1, m2⟩ := month_of_day d1 d2
  have hd := dby_range y y1 y2
  have hl := lenI_bd y m
  go_enter Tryz.func102, Tryz.ntmps102
  go_wp2_with fail
  refine (right_any _ _ _ _ _ _ _ _ _ ht).mono ?_
  rintro e w1 ⟨rfl, hb⟩
  have ht1 := ht.below hb
  clear ht
  go_wp2_with (go_at_call 98; refine (newYear_any _ _ (by omega) (by omega)).mono ?_; rintro e w' ⟨rfl, rfl⟩)
  go_loop [8, 9] (fun n k => ∃ j : Int, 1 ≤ j ∧ j ≤ m ∧ k = .int .i64 j ∧ n = .int .i64 (dby y - 719162 + d - 1 + cum y j)) (fun _ k => (m - intOf k).toNat)
  case atStart => exact ⟨1, by omega, by omega, rfl, by rw [cum_one]; go_num⟩
  case round =>
    obtain ⟨j, j1, j2, rfl, rfl⟩ := hrel
    have cb := cum_bd y j j1 (by omega)
    have lb := lenI_bd y j
    have l1 := lp_01 y
    by_cases hlt : j < m
    · have HC := Lib.hid (cum_succ y j j1 (by omega))
      go_wp2_with (go_at_call 127; refine (length_any _ _ _ ht1).mono ?_; rintro e w' ⟨rfl, rfl⟩)
      go_round
      case rel => exact ⟨j + 1, by omega, by omega, rfl, by rw [HC.out]; go_num⟩
      case measure => simp [intOf]; omega
    · obtain rfl : m = j := by omega
      go_wp2
      go_ret2
      exact ⟨rfl, hb⟩
end Go.Proofs.YtnaijahhogndjaaGreatDoor.Cal
