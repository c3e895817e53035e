/- What dateOf and Date answer: the right date of Zone 0 of so many days, and of so many nanoseconds, cut to microseconds and to the years that there are. Conditions: the table of months' lengths stands. -/
import Derived.Test.YtnaijahhogndjaaGreatDoorCalMoment
import Derived.Test.YtnaijahhogndjaaGreatDoorCalDates
namespace Go.Proofs.YtnaijahhogndjaaGreatDoor.Cal
open Go.ChangeShapes Go.WideShapes Go.ChangeAt Go.RowKit

/-- A date of so many days. -/
def DayIs (days y m d : Int) : Prop := (1700 ≤ y ∧ y ≤ 2250) ∧ (1 ≤ d ∧ d ≤ lenI y m) ∧ daysI y m d = days
def DateOfAns (days : Int) (w : World) (e : Ending) (w' : World) : Prop :=
  ∃ y m d : Int, e = .returned (.agg #[.int .i64 y, .int .i64 m, .int .i64 d, .int .i64 0, .int .i64 0, .int .i64 0, .int .i64 0, .int .i64 0]) ∧ DayIs days y m d ∧ Below w.heap.size w w'
set_option maxHeartbeats 1000000 in
theorem dateOf_any (n : Int) (w : World) (ht : Tab w) (h1 : -98615 ≤ n) (h2 : n ≤ 102632) :
    Calls Tryz.prog 99 #[.int .i64 n] w (DateOfAns n w) := by
  have g0 := guess_year ((n - -98615) / 366) (by omega) (by omega)
  have g1 : dby (1700 + (n - -98615) / 366) - 719162 ≤ n := by omega
  have G1 := Lib.hid g1
  clear g0 g1
  have ht1 : Tab (w.alloc (.cells #[.int .i64 0, .int .i64 0, .int .i64 0, .int .i64 0, .int .i64 0, .int .i64 0, .int .i64 0, .int .i64 0] 62)) := ht.alloc _
  have e0 := dby_1700
  clear ht
  go_enter Tryz.func99, Tryz.ntmps99
  go_wp2_with (go_at_call 98; refine (newYear_any _ _ (by omega) (by omega)).mono ?_; rintro e w' ⟨rfl, rfl⟩)
  go_loop [3] (fun t => ∃ y : Int, 1700 ≤ y ∧ y ≤ 2250 ∧ dby y - 719162 ≤ n ∧ t = .int .i64 y) (fun t => (2250 - intOf t).toNat)
  case atStart => exact ⟨_, by omega, by omega, G1.out, by simp⟩
  case round =>
    obtain ⟨y, y1, y2, y3, rfl⟩ := hrel
    clear G1 e0
    have hb := dby_bd y (by omega) (by omega)
    have hb' := dby_bd (y + 1) (by omega) (by omega)
    by_cases hd : dby (y + 1) - 719162 ≤ n
    · have hlt : y < 2250 := by
        by_cases k : y < 2250
        · exact k
        · obtain rfl : y = 2250 := by omega
          have e := dby_2251
          have e' : (2250 : Int) + 1 = 2251 := rfl
          rw [e', e] at hd
          omega
      go_wp2_with (go_at_call 98; refine (newYear_any _ _ (by omega) (by omega)).mono ?_; rintro e w' ⟨rfl, rfl⟩)
      go_round
      case rel => exact ⟨y + 1, by omega, by omega, hd, rfl⟩
      case measure => simp [intOf]; omega
    · have HS := Lib.hid (dby_succ y)
      have hs := lp_01 y
      have hlen : n - (dby y - 719162) + 1 ≤ 365 + lp y := by have := HS.out; omega
      go_wp2_with (go_at_call 98; refine (newYear_any _ _ (by omega) (by omega)).mono ?_; rintro e w' ⟨rfl, rfl⟩)
      go_loop [4, 5] (fun k t => ∃ m : Int, 1 ≤ m ∧ m ≤ 12 ∧ k = .int .i64 m ∧ 1 ≤ n - (dby y - 719162) + 1 - cum y m ∧ t = .int .i64 (n - (dby y - 719162) + 1 - cum y m)) (fun k _ => (12 - intOf k).toNat)
      case atStart => exact ⟨1, by omega, by omega, rfl, by rw [cum_one]; omega, by rw [cum_one]; simp⟩
      case round =>
        obtain ⟨m, m1, m2, rfl, t1, rfl⟩ := hrel
        have cb := cum_bd y m m1 m2
        have lb := lenI_bd y m
        have CS := Lib.hid (cum_succ y m m1 m2)
        by_cases hgt : lenI y m < n - (dby y - 719162) + 1 - cum y m
        · have hm : m < 12 := by
            by_cases k : m < 12
            · exact k
            · obtain rfl : m = 12 := by omega
              have e := CS.out
              have e' : (12 : Int) + 1 = 13 := rfl
              rw [e', cum_13] at e
              omega
          go_wp2_with (go_at_call 127; refine (length_any _ _ _ ht1).mono ?_; rintro e w' ⟨rfl, rfl⟩)
          go_round
          case rel => exact ⟨m + 1, by omega, by omega, rfl, by rw [CS.out]; omega, by rw [CS.out]; go_num⟩
          case measure => simp [intOf]; omega
        · go_wp2_with (go_at_call 127; refine (length_any _ _ _ ht1).mono ?_; rintro e w' ⟨rfl, rfl⟩)
          refine bodyPost_ret (v := .agg #[.int .i64 y, .int .i64 m, .int .i64 (n - (dby y - 719162) + 1 - cum y m), .int .i64 0, .int .i64 0, .int .i64 0, .int .i64 0, .int .i64 0]) (by simp [results, Tryz.results99, go_sem]) rfl ⟨y, m, _, rfl, ⟨⟨y1, y2⟩, ⟨t1, by omega⟩, by unfold daysI; omega⟩, ?_⟩
          exact (Below.refl _ _).alloc (Nat.le_refl _) _
end Go.Proofs.YtnaijahhogndjaaGreatDoor.Cal
