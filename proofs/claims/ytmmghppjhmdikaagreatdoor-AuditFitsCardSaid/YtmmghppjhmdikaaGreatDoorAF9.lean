/- The texts CalRef, CalRefDays, CalRefDate, one behind the other. -/
import Derived.Test.YtmmghppjhmdikaaGreatDoorAF1
import Derived.Test.YtmmghppjhmdikaaGreatDoorAF2
/- What the document's own answers for package cal are (leap years, lengths, right dates, days, nanoseconds): the same numbers. All memory that was there stays. No conditions. -/
namespace Go.Proofs.YtmmghppjhmdikaaGreatDoor.Cal
open Go.ChangeShapes Go.WideShapes Go.ChangeAt Go.RowKit

theorem rleap_any (y : Int) (w : World) :
    Calls Tryz.prog 56 #[.int .i64 y] w fun e w' => e = .returned (.bool (leapB y)) ∧ w' = w := by
  have e1 := tmod_zero y 4
  have e2 := tmod_nonzero y 100
  have e3 := tmod_zero y 400
  have hd : leapB y = (decide (y % 400 = 0) || decide (y % 4 = 0) && decide (y % 100 ≠ 0)) := by unfold leapB; simp [Bool.or_comm]
  rw [hd]
  clear hd
  by_cases h3 : y % 400 = 0
  · rw [decide_eq_true h3] at e3 ⊢
    clear h3 e1 e2
    go_enter Tryz.func56, Tryz.ntmps56
    go_wp2
    go_ret
    exact ⟨rfl, rfl⟩
  · rw [decide_eq_false h3] at e3 ⊢
    by_cases h1 : y % 4 = 0
    · rw [decide_eq_true h1] at e1 ⊢
      have e4 : decide (y % 100 ≠ 0) = (y.tmod 100 != 0) := e2.symm
      rw [e4]
      clear h1 h3 e2 e4
      go_enter Tryz.func56, Tryz.ntmps56
      go_wp2
      go_ret
      exact ⟨rfl, rfl⟩
    · rw [decide_eq_false h1] at e1 ⊢
      clear h1 h3 e2
      go_enter Tryz.func56, Tryz.ntmps56
      go_wp2
      go_ret
      exact ⟨rfl, rfl⟩

theorem rlength_any (y m : Int) (w : World) :
    Calls Tryz.prog 39 #[.int .i64 y, .int .i64 m] w fun e w' => e = .returned (.int .i64 (lenI y m)) ∧ w' = w := by
  by_cases h2 : m = 2
  · subst h2
    by_cases hy : leapB y = true
    · have e : lenI y 2 = 29 := by unfold lenI lp; rw [if_pos rfl, if_pos hy]; rfl
      rw [e]
      clear e
      go_enter Tryz.func39, Tryz.ntmps39
      go_wp2_with (go_at_call 56; refine (rleap_any _ _).mono ?_; rintro e w' ⟨rfl, rfl⟩)
      go_ret
      exact ⟨rfl, rfl⟩
    · have e : lenI y 2 = 28 := by unfold lenI lp; rw [if_pos rfl, if_neg hy]; rfl
      have hf : leapB y = false := by simpa using hy
      rw [e]
      clear e hy
      go_enter Tryz.func39, Tryz.ntmps39
      go_wp2_with (go_at_call 56; refine (rleap_any _ _).mono ?_; rintro e w' ⟨rfl, rfl⟩)
      go_ret
      exact ⟨rfl, rfl⟩
  · have g2 : (m == 2) = false := beq_eq_false_iff_ne.2 h2
    by_cases h30 : m = 4 ∨ m = 6 ∨ m = 9 ∨ m = 11
    · have e : lenI y m = 30 := by unfold lenI; rw [if_neg h2, if_pos h30]
      rw [e]
      clear e h2
      rcases h30 with rfl | rfl | rfl | rfl
      all_goals
        clear g2
        go_enter Tryz.func39, Tryz.ntmps39
        go_wp2
        go_ret
        exact ⟨rfl, rfl⟩
    · have g4 : (m == 4) = false := beq_eq_false_iff_ne.2 (by omega)
      have g6 : (m == 6) = false := beq_eq_false_iff_ne.2 (by omega)
      have g9 : (m == 9) = false := beq_eq_false_iff_ne.2 (by omega)
      have g11 : (m == 11) = false := beq_eq_false_iff_ne.2 (by omega)
      by_cases h31 : 1 ≤ m ∧ m ≤ 12
      · have e : lenI y m = 31 := by unfold lenI; rw [if_neg h2, if_neg h30, if_pos h31]
        rw [e]
        obtain ⟨a, b⟩ := h31
        clear e h2 h30
        go_enter Tryz.func39, Tryz.ntmps39
        go_wp2
        go_ret
        exact ⟨rfl, rfl⟩
      · have e : lenI y m = 0 := lenI_none y m h31
        rw [e]
        clear e h2 h30
        rcases (show m < 1 ∨ (1 ≤ m ∧ 12 < m) by omega) with h | ⟨h, h'⟩
        all_goals
          clear h31
          go_enter Tryz.func39, Tryz.ntmps39
          go_wp2
          go_ret
          exact ⟨rfl, rfl⟩

def dayB (y m d : Int) : Bool := decide ((1700 ≤ y ∧ y ≤ 2250) ∧ 1 ≤ d ∧ d ≤ lenI y m)
theorem rday_any (y m d : Int) (w : World) :
    Calls Tryz.prog 38 #[.int .i64 y, .int .i64 m, .int .i64 d] w fun e w' => e = .returned (.bool (dayB y m d)) ∧ w' = w := by
  by_cases hin : 1700 ≤ y ∧ y ≤ 2250 ∧ 1 ≤ m ∧ m ≤ 12 ∧ 1 ≤ d
  · obtain ⟨a, b, c, c', c''⟩ := hin
    have e : dayB y m d = decide (d ≤ lenI y m) := by unfold dayB; rw [decide_eq_decide]; omega
    rw [e]
    clear e
    go_enter Tryz.func38, Tryz.ntmps38
    go_wp2_with (go_at_call 39; refine (rlength_any _ _ _).mono ?_; rintro e w' ⟨rfl, rfl⟩)
    go_ret
    exact ⟨rfl, rfl⟩
  · have e : dayB y m d = false := by
      unfold dayB
      rw [decide_eq_false_iff_not]
      rintro ⟨h1, h2, h3⟩
      have := month_of_day h2 h3
      omega
    rw [e]
    clear e
    rcases (show y < 1700 ∨ (1700 ≤ y ∧ 2250 < y) ∨ (1700 ≤ y ∧ y ≤ 2250 ∧ m < 1) ∨ (1700 ≤ y ∧ y ≤ 2250 ∧ 1 ≤ m ∧ 12 < m) ∨ (1700 ≤ y ∧ y ≤ 2250 ∧ 1 ≤ m ∧ m ≤ 12 ∧ d < 1) by omega) with h | ⟨h, h'⟩ | ⟨h, h', h''⟩ | ⟨h, h', h'', h3⟩ | ⟨h, h', h'', h3, h4⟩
    all_goals
      clear hin
      go_enter Tryz.func38, Tryz.ntmps38
      go_wp2
      go_ret
      exact ⟨rfl, rfl⟩

theorem right_day (y m d h i s n z : Int) : rightB y m d h i s n z = (dayB y m d && decide ((0 ≤ h ∧ h ≤ 23) ∧ (0 ≤ i ∧ i ≤ 59) ∧ (0 ≤ s ∧ s ≤ 59) ∧ (0 ≤ n ∧ n ≤ 999999999) ∧ n % 1000 = 0 ∧ (-1439 ≤ z ∧ z ≤ 1439))) := by
  unfold rightB dayB
  rw [Bool.eq_iff_iff]
  simp only [Bool.and_eq_true, decide_eq_true_iff]
  constructor
  · rintro ⟨a, b, c⟩; exact ⟨⟨a, b⟩, c⟩
  · rintro ⟨⟨a, b⟩, c⟩; exact ⟨a, b, c⟩
set_option maxHeartbeats 2000000 in
theorem rright_any (y m d h i s n z : Int) (w : World) :
    Calls Tryz.prog 21 #[.agg #[.int .i64 y, .int .i64 m, .int .i64 d, .int .i64 h, .int .i64 i, .int .i64 s, .int .i64 n, .int .i64 z]] w
      fun e w' => e = .returned (.bool (rightB y m d h i s n z)) ∧ Below w.heap.size w w' := by
  have hb : Below w.heap.size w (w.alloc (.cells #[.int .i64 y, .int .i64 m, .int .i64 d, .int .i64 h, .int .i64 i, .int .i64 s, .int .i64 n, .int .i64 z] 50)) := (Below.refl _ _).alloc (Nat.le_refl _) _
  rw [right_day]
  by_cases hd : dayB y m d = true
  case neg =>
    have hd' : dayB y m d = false := by simpa using hd
    have e : (dayB y m d && decide ((0 ≤ h ∧ h ≤ 23) ∧ (0 ≤ i ∧ i ≤ 59) ∧ (0 ≤ s ∧ s ≤ 59) ∧ (0 ≤ n ∧ n ≤ 999999999) ∧ n % 1000 = 0 ∧ (-1439 ≤ z ∧ z ≤ 1439))) = false := by rw [hd']; rfl
    rw [e]
    clear hd e
    go_enter Tryz.func21, Tryz.ntmps21
    go_wp2_with (go_at_call 38; refine (rday_any _ _ _ _).mono ?_; rintro e w' ⟨rfl, rfl⟩)
    go_ret
    exact ⟨rfl, hb⟩
  rw [hd, Bool.true_and]
  by_cases hin : (0 ≤ h ∧ h ≤ 23 ∧ 0 ≤ i ∧ i ≤ 59 ∧ 0 ≤ s ∧ s ≤ 59) ∧ 0 ≤ n ∧ n ≤ 999999999 ∧ n % 1000 = 0 ∧ -1439 ≤ z
  · obtain ⟨⟨a1, a2, a3, a4, a5, a6⟩, a7, a8, a9, a10⟩ := hin
    have e : decide ((0 ≤ h ∧ h ≤ 23) ∧ (0 ≤ i ∧ i ≤ 59) ∧ (0 ≤ s ∧ s ≤ 59) ∧ (0 ≤ n ∧ n ≤ 999999999) ∧ n % 1000 = 0 ∧ (-1439 ≤ z ∧ z ≤ 1439)) = decide (z ≤ 1439) := by rw [decide_eq_decide]; omega
    rw [e]
    have e9 : (n % 1000 == 0) = true := beq_iff_eq.2 a9
    clear e a9
    go_enter Tryz.func21, Tryz.ntmps21
    go_wp2_with (go_at_call 38; refine (rday_any _ _ _ _).mono ?_; rintro e w' ⟨rfl, rfl⟩)
    go_ret
    exact ⟨rfl, hb⟩
  · have e : decide ((0 ≤ h ∧ h ≤ 23) ∧ (0 ≤ i ∧ i ≤ 59) ∧ (0 ≤ s ∧ s ≤ 59) ∧ (0 ≤ n ∧ n ≤ 999999999) ∧ n % 1000 = 0 ∧ (-1439 ≤ z ∧ z ≤ 1439)) = false := by rw [decide_eq_false_iff_not]; omega
    rw [e]
    clear e
    by_cases h6 : 0 ≤ h ∧ h ≤ 23 ∧ 0 ≤ i ∧ i ≤ 59 ∧ 0 ≤ s ∧ s ≤ 59
    · obtain ⟨a1, a2, a3, a4, a5, a6⟩ := h6
      rcases (show n < 0 ∨ (0 ≤ n ∧ 999999999 < n) ∨ (0 ≤ n ∧ n ≤ 999999999 ∧ (n % 1000 == 0) = false) ∨ (0 ≤ n ∧ n ≤ 999999999 ∧ (n % 1000 == 0) = true ∧ z < -1439) by
          simp only [beq_eq_false_iff_ne, beq_iff_eq, ne_eq]; omega) with h | ⟨h, h'⟩ | ⟨h, h', h''⟩ | ⟨h, h', h'', h3⟩
      all_goals
        clear hin
        go_enter Tryz.func21, Tryz.ntmps21
        go_wp2_with (go_at_call 38; refine (rday_any _ _ _ _).mono ?_; rintro e w' ⟨rfl, rfl⟩)
        go_ret
        exact ⟨rfl, hb⟩
    · rcases (show h < 0 ∨ (0 ≤ h ∧ 23 < h) ∨ (0 ≤ h ∧ h ≤ 23 ∧ i < 0) ∨ (0 ≤ h ∧ h ≤ 23 ∧ 0 ≤ i ∧ 59 < i) ∨ (0 ≤ h ∧ h ≤ 23 ∧ 0 ≤ i ∧ i ≤ 59 ∧ s < 0) ∨ (0 ≤ h ∧ h ≤ 23 ∧ 0 ≤ i ∧ i ≤ 59 ∧ 0 ≤ s ∧ 59 < s) by omega)
          with h | ⟨h, h'⟩ | ⟨h, h', h''⟩ | ⟨h, h', h'', h3⟩ | ⟨h, h', h'', h3, h4⟩ | ⟨h, h', h'', h3, h4, h5⟩
      all_goals
        clear hin h6
        go_enter Tryz.func21, Tryz.ntmps21
        go_wp2_with (go_at_call 38; refine (rday_any _ _ _ _).mono ?_; rintro e w' ⟨rfl, rfl⟩)
        go_ret
        exact ⟨rfl, hb⟩
end Go.Proofs.YtmmghppjhmdikaaGreatDoor.Cal
/- What the document's own answers for days and nanoseconds are: the same numbers. All memory that was there stays. No conditions. -/
namespace Go.Proofs.YtmmghppjhmdikaaGreatDoor.Cal
open Go.ChangeShapes Go.WideShapes Go.ChangeAt Go.RowKit

theorem lenI_two (y : Int) : lenI y 2 = 28 + lp y := rfl
theorem rdays_no (y m d : Int) (w : World) (hr : dayB y m d = false) :
    Calls Tryz.prog 22 #[.int .i64 y, .int .i64 m, .int .i64 d] w fun e w' => e = .returned (.tuple #[.int .i64 0, .int .i64 1]) ∧ w' = w := by
  go_enter Tryz.func22, Tryz.ntmps22
  go_wp2_with (go_at_call 38; refine (rday_any _ _ _ _).mono ?_; rintro e w' ⟨rfl, rfl⟩)
  go_ret2
  exact ⟨rfl, rfl⟩
set_option maxHeartbeats 2000000 in
theorem rdays_yes (y m d : Int) (w : World) (hr : dayB y m d = true) :
    Calls Tryz.prog 22 #[.int .i64 y, .int .i64 m, .int .i64 d] w fun e w' => e = .returned (.tuple #[.int .i64 (daysI y m d), .int .i64 0]) ∧ w' = w := by
  obtain ⟨⟨y1, y2⟩, d1, d2⟩ : (1700 ≤ y ∧ y ≤ 2250) ∧ 1 ≤ d ∧ d ≤ lenI y m := of_decide_eq_true hr
  obtain ⟨m1, m2⟩ := month_of_day d1 d2
  have hl := lenI_bd y m
  have cb0 := cum_bd y m m1 m2
  have l0 := lp_01 y
  go_enter Tryz.func22, Tryz.ntmps22
  go_wp2_with (go_at_call 38; refine (rday_any _ _ _ _).mono ?_; rintro e w' ⟨rfl, rfl⟩)
  go_loop [9, 10] (fun n k => ∃ j : Int, 1 ≤ j ∧ j ≤ m ∧ k = .int .i64 j ∧ n = .int .i64 (d - 1 + cum y j)) (fun _ k => (m - intOf k).toNat)
  case atStart => exact ⟨1, by omega, by omega, rfl, by rw [cum_one]; go_num⟩
  case round =>
    obtain ⟨j, j1, j2, rfl, rfl⟩ := hrel
    have cb := cum_bd y j j1 (by omega)
    have lb := lenI_bd y j
    by_cases hlt : j < m
    · have HC := Lib.hid (cum_succ y j j1 (by omega))
      go_wp2_with (go_at_call 39; refine (rlength_any _ _ _).mono ?_; rintro e w' ⟨rfl, rfl⟩)
      go_round
      case rel => exact ⟨j + 1, by omega, by omega, rfl, by rw [HC.out]; go_num⟩
      case measure => simp [intOf]; omega
    · obtain rfl : m = j := by omega
      have HY := Lib.hid dby_1970
      have HD := Lib.hid (show daysI y m d = dby y - 719162 + d - 1 + cum y m from rfl)
      generalize cum y m = C at cb cb0 HD ⊢
      clear lb
      go_wp2
      go_loop [9, 11] (fun n k => ∃ t : Int, 1970 ≤ t ∧ (t ≤ y ∨ t = 1970) ∧ k = .int .i64 t ∧ n = .int .i64 (d - 1 + C + (dby t - 719162))) (fun _ k => (y - intOf k).toNat)
      case atStart => exact ⟨1970, by omega, .inr rfl, rfl, by rw [HY.out]; go_num⟩
      case round =>
        obtain ⟨t, t1, t2, rfl, rfl⟩ := hrel
        have tb := dby_bd t (by omega) (by omega)
        have lt := lp_01 t
        by_cases hlt2 : t < y
        · have HS := Lib.hid (dby_succ t)
          have hlen := lenI_two t
          have h28 := lenI_bd t 2
          have HL := Lib.hid hlen
          clear hlen
          go_wp2_with (go_at_call 39; refine (rlength_any _ _ _).mono ?_; rintro e w' ⟨rfl, rfl⟩)
          go_round
          case rel =>
            refine ⟨t + 1, by omega, .inl (by omega), rfl, ?_⟩
            rw [HS.out, HL.out]
            congr 1
            omega
          case measure => simp [intOf]; omega
        · clear cb0 hlt
          have ht0 : (t = y ∧ 1970 ≤ y) ∨ (t = 1970 ∧ y < 1970) := by omega
          have hmax : dby t - 719162 = (if y < 1970 then 0 else dby y - 719162) := by
            rcases ht0 with ⟨rfl, h⟩ | ⟨rfl, h⟩
            · rw [if_neg (by omega)]
            · rw [if_pos h, HY.out]; rfl
          obtain ⟨X, hX⟩ : ∃ X, X = dby t - 719162 := ⟨_, rfl⟩
          have xb : -719162 ≤ X ∧ X ≤ 2933263 := by omega
          have HM := Lib.hid (hX.trans hmax)
          rw [← hX]
          clear hmax hX ht0 t2 tb lt
          go_wp2
          go_loop [9, 12] (fun n k => ∃ u : Int, y ≤ u ∧ (u ≤ 1970 ∨ u = y) ∧ k = .int .i64 u ∧ n = .int .i64 (d - 1 + C + X - (dby u - dby y))) (fun _ k => (1970 - intOf k).toNat)
          case atStart => exact ⟨y, by omega, .inr rfl, rfl, by go_num⟩
          case round =>
            obtain ⟨u, u1, u2, rfl, rfl⟩ := hrel
            have ub := dby_bd u (by omega) (by omega)
            have yb := dby_bd y (by omega) (by omega)
            have lu := lp_01 u
            by_cases hlt3 : u < 1970
            · have HS := Lib.hid (dby_succ u)
              have h28 := lenI_bd u 2
              have HL := Lib.hid (lenI_two u)
              go_wp2_with (go_at_call 39; refine (rlength_any _ _ _).mono ?_; rintro e w' ⟨rfl, rfl⟩)
              go_round
              case rel =>
                refine ⟨u + 1, by omega, .inl (by omega), rfl, ?_⟩
                rw [HS.out, HL.out]
                congr 1
                omega
              case measure => simp [intOf]; omega
            · go_wp2
              go_ret2
              refine ⟨?_, rfl⟩
              have key : d - 1 + C + X - (dby u - dby y) = daysI y m d := by
                have h1 := HM.out
                have h2 := HD.out
                have h3 := HY.out
                by_cases hy : y < 1970
                · rw [if_pos hy] at h1
                  obtain rfl : u = 1970 := by omega
                  omega
                · rw [if_neg hy] at h1
                  obtain rfl : u = y := by omega
                  omega
              rw [← key]
              rfl

theorem rnanos_no (y m d h i s n z : Int) (w : World) (hr : rightB y m d h i s n z = false) :
    Calls Tryz.prog 13 #[.agg #[.int .i64 y, .int .i64 m, .int .i64 d, .int .i64 h, .int .i64 i, .int .i64 s, .int .i64 n, .int .i64 z]] w
      fun e w' => e = .returned (.tuple #[.int .i64 0, .int .i64 1]) ∧ Below w.heap.size w w' := by
  have hb : Below w.heap.size w (w.alloc (.cells #[.int .i64 y, .int .i64 m, .int .i64 d, .int .i64 h, .int .i64 i, .int .i64 s, .int .i64 n, .int .i64 z] 50)) := (Below.refl _ _).alloc (Nat.le_refl _) _
  go_enter Tryz.func13, Tryz.ntmps13
  go_wp2_with (go_at_call 21; refine (rright_any _ _ _ _ _ _ _ _ _).mono ?_; rintro e w' ⟨rfl, hb2⟩)
  go_ret2
  exact ⟨rfl, hb.trans (hb2.mono (by simp))⟩
set_option maxHeartbeats 1000000 in
theorem rnanos_yes (y m d h i s n z : Int) (w : World) (hr : rightB y m d h i s n z = true) :
    Calls Tryz.prog 13 #[.agg #[.int .i64 y, .int .i64 m, .int .i64 d, .int .i64 h, .int .i64 i, .int .i64 s, .int .i64 n, .int .i64 z]] w
      fun e w' => e = .returned (.tuple #[.int .i64 (nanosI y m d h i s n z), .int .i64 0]) ∧ Below w.heap.size w w' := by
  obtain ⟨⟨y1, y2⟩, ⟨d1, d2⟩, ⟨h1, h2⟩, ⟨i1, i2⟩, ⟨s1, s2⟩, ⟨n1, n2⟩, _, ⟨z1, z2⟩⟩ := (right_iff ..).1 hr
  have hd := daysI_bd y1 y2 d1 d2
  have hr0 : dayB y m d = true := decide_eq_true ⟨⟨y1, y2⟩, d1, d2⟩
  have hb : Below w.heap.size w (w.alloc (.cells #[.int .i64 y, .int .i64 m, .int .i64 d, .int .i64 h, .int .i64 i, .int .i64 s, .int .i64 n, .int .i64 z] 50)) := (Below.refl _ _).alloc (Nat.le_refl _) _
  go_enter Tryz.func13, Tryz.ntmps13
  go_wp2_with fail
  refine (rright_any _ _ _ _ _ _ _ _ _).mono ?_
  rintro e w2 ⟨rfl, hb2⟩
  have B2 : Below w.heap.size w w2 := hb.trans (hb2.mono (by simp))
  obtain ⟨hc2, hf2⟩ := bcell hb2
  go_wp2_with fail
  refine (rdays_yes _ _ _ _ hr0).mono ?_
  rintro e w3 ⟨rfl, rfl⟩
  have hz : w.heap.size < w3.heap.size := by have := hb2.size; simp at this; omega
  have HN := Lib.hid (show nanosI y m d h i s n z = daysI y m d * 86400000000000 + h * 3600000000000 + (i - z) * 60000000000 + s * 1000000000 + n from rfl)
  generalize daysI y m d = D at hd HN ⊢
  clear hr hr0 hb hb2 y1 y2 d1 d2
  have hs : -10000000000 ≤ D * 86400 + h * 3600 + i * 60 + s - z * 60 ∧ D * 86400 + h * 3600 + i * 60 + s - z * 60 ≤ 9000000000 := by omega
  go_wp2
  go_ret2
  refine ⟨?_, B2⟩
  have key : (D * 86400 + h * 3600 + i * 60 + s - z * 60) * 1000000000 + n = nanosI y m d h i s n z := by rw [HN.out]; omega
  rw [← key]
  rfl
end Go.Proofs.YtmmghppjhmdikaaGreatDoor.Cal
/- What the document's own answer for the date of nanoseconds is. All memory that was there stays. No conditions. -/
namespace Go.Proofs.YtmmghppjhmdikaaGreatDoor.Cal
open Go.ChangeShapes Go.WideShapes Go.ChangeAt Go.RowKit

theorem rlow_right : rightB 1700 1 1 0 0 0 0 0 = true := by decide
theorem rhigh_right : rightB 2250 12 31 23 59 59 999999000 0 = true := by decide
theorem rlow_nanos : nanosI 1700 1 1 0 0 0 0 0 = -8520336000000000000 := by decide
theorem rhigh_nanos : nanosI 2250 12 31 23 59 59 999999000 0 = 8867491199999999000 := by decide
/-- What left nanoseconds of a day make. -/
theorem rdate_right {L y m d : Int} (h1 : 1700 ≤ y) (h2 : y ≤ 2250) (h3 : 1 ≤ d) (h4 : d ≤ lenI y m) (l1 : 0 ≤ L) (l2 : L < 86400000000000) :
    rightB y m d (L / 3600000000000) (L / 60000000000 % 60) (L / 1000000000 % 60) (L / 1000 % 1000000 * 1000) 0 = true :=
  (right_iff ..).2 ⟨⟨h1, h2⟩, ⟨h3, h4⟩, by omega⟩
theorem rdate_nanos {N L y m d : Int} (hN : N = daysI y m d * 86400000000000 + L) :
    nanosI y m d (L / 3600000000000) (L / 60000000000 % 60) (L / 1000000000 % 60) (L / 1000 % 1000000 * 1000) 0 = N - N % 1000 := by
  unfold nanosI
  generalize daysI y m d = D at hN ⊢
  omega
theorem u64_in (x : Int) (h1 : 0 ≤ x) (h2 : x < 18446744073709551616) : IntKind.u64.wrap (wrap64 x) = x := by
  have e : IntKind.u64.wrap (wrap64 x) = (wrap64 x) % 18446744073709551616 := rfl
  have e2 : wrap64 x = (x + 9223372036854775808) % 18446744073709551616 - 9223372036854775808 := by unfold wrap64; rfl
  rw [e, e2]
  omega
set_option maxHeartbeats 4000000 in
set_option maxRecDepth 100000 in
theorem rdate_mid (n : Int) (w : World) (h1 : -8520336000000000000 ≤ n) (h2 : n ≤ 8867491199999999000) : Calls Tryz.prog 24 #[.int .i64 n] w (DateAns n w) := by
  have HW := Lib.hid (u64_in (n + 8520336000000000000) (by omega) (by omega))
  have hb1 : Below w.heap.size w (w.alloc (.cells #[.int .i64 0, .int .i64 0, .int .i64 0, .int .i64 0, .int .i64 0, .int .i64 0, .int .i64 0, .int .i64 0] 50)) := (Below.refl _ _).alloc (Nat.le_refl _) _
  have HL := Lib.hid rlow_nanos
  have HH := Lib.hid rhigh_nanos
  go_enter Tryz.func24, Tryz.ntmps24
  go_wp2_with fail
  refine (rnanos_yes _ _ _ _ _ _ _ _ _ rlow_right).mono ?_
  rintro e w2 ⟨rfl, hb2⟩
  have B2 : Below w.heap.size w w2 := hb1.trans (hb2.mono (by simp))
  obtain ⟨hc2, hf2⟩ := bcell hb2
  have hz2 : w.heap.size < w2.heap.size := by have := hb2.size; simp at this; omega
  rw [HL.out]
  clear hb1 hb2 HL
  go_wp2_with fail
  refine (rnanos_yes _ _ _ _ _ _ _ _ _ rhigh_right).mono ?_
  rintro e w3 ⟨rfl, hb3⟩
  have B3 : Below w.heap.size w w3 := B2.trans (hb3.mono B2.size)
  obtain ⟨hc3, hf3⟩ := bcell hb3
  have hz3 : w.heap.size < w3.heap.size := by have := hb3.size; omega
  rw [HH.out]
  clear hb3 HH B2
  go_wp2
  rw [HW.out]
  obtain ⟨X, hX⟩ : ∃ X, X = n + 8520336000000000000 := ⟨_, rfl⟩
  have x1 : 0 ≤ X := by omega
  have x2 : X < 17387827200000000000 := by omega
  rw [← hX]
  have HC := Lib.hid (show clamp n - clamp n % 1000 = (X + -8520336000000000000) - (X + -8520336000000000000) % 1000 by
    rw [show clamp n = X + -8520336000000000000 by unfold clamp; rw [if_neg (by omega), if_neg (by omega)]; omega])
  clear hX HW
  go_loopw [7] (fun t wr => ∃ Y : Int, 1700 ≤ Y ∧ Y ≤ 2250 ∧ 0 ≤ X - (dby Y - 620547) * 86400000000000 ∧ t = .int .u64 (X - (dby Y - 620547) * 86400000000000) ∧
      wr = w3.alloc (.cells #[.int .i64 Y, .int .i64 1, .int .i64 1, .int .i64 0, .int .i64 0, .int .i64 0, .int .i64 0, .int .i64 0] 50)) (fun t _ => (intOf t).toNat)
  case atStart => exact ⟨1700, by omega, by omega, by rw [dby_1700]; omega, by rw [dby_1700]; simp, rfl⟩
  case round =>
    obtain ⟨Y, Y1, Y2, R0, rfl, rfl⟩ := hrel
    obtain ⟨R, hR⟩ : ∃ R, R = X - (dby Y - 620547) * 86400000000000 := ⟨_, rfl⟩
    have HR := Lib.hid hR
    rw [← hR] at R0 ⊢
    have rle : R ≤ X := by have := dby_mono 1700 Y Y1; rw [dby_1700] at this; omega
    have lb := lenI_bd Y 2
    have HT := Lib.hid (lenI_two Y)
    have HS := Lib.hid (dby_succ Y)
    clear hR
    by_cases hge : (337 + lenI Y 2) * 86400000000000 ≤ R
    · have hlt : Y < 2250 := by
        by_cases k : Y < 2250
        · exact k
        · obtain rfl : Y = 2250 := by omega
          have e1 := HR.out
          have e2 := HT.out
          have e3 := HS.out
          have e4 : (2250 : Int) + 1 = 2251 := rfl
          rw [e4, dby_2251] at e3
          omega
      go_wp2_with (go_at_call 39; refine (rlength_any _ _ _).mono ?_; rintro e w' ⟨rfl, rfl⟩)
      go_roundw
      case rel => exact ⟨Y + 1, by omega, by omega, by have e1 := HR.out; have e2 := HT.out; have e3 := HS.out; rw [e3]; omega, by have e1 := HR.out; have e2 := HT.out; have e3 := HS.out; rw [e3]; congr 1; omega, rfl⟩
      case measure => simp [intOf]; omega
    · have hyear : R < (365 + lp Y) * 86400000000000 := by have e2 := HT.out; omega
      go_wp2_with (go_at_call 39; refine (rlength_any _ _ _).mono ?_; rintro e w' ⟨rfl, rfl⟩)
      clear HS HT hge lb
      go_loopw [7] (fun t wr => ∃ M : Int, 1 ≤ M ∧ M ≤ 12 ∧ 0 ≤ R - cum Y M * 86400000000000 ∧ t = .int .u64 (R - cum Y M * 86400000000000) ∧
          wr = w3.alloc (.cells #[.int .i64 Y, .int .i64 M, .int .i64 1, .int .i64 0, .int .i64 0, .int .i64 0, .int .i64 0, .int .i64 0] 50)) (fun t _ => (intOf t).toNat)
      case atStart => exact ⟨1, by omega, by omega, by rw [cum_one]; omega, by rw [cum_one]; simp, rfl⟩
      case round =>
        obtain ⟨M, M1, M2, S0, rfl, rfl⟩ := hrel
        obtain ⟨S, hS⟩ : ∃ S, S = R - cum Y M * 86400000000000 := ⟨_, rfl⟩
        have cb := cum_bd Y M M1 M2
        have sle : S ≤ X := by omega
        have HSS := Lib.hid hS
        rw [← hS] at S0 ⊢
        have lb := lenI_bd Y M
        have lp0 := lenI_pos Y M M1 M2
        have CS := Lib.hid (cum_succ Y M M1 M2)
        clear hS
        by_cases hge : lenI Y M * 86400000000000 ≤ S
        · have hlt : M < 12 := by
            by_cases k : M < 12
            · exact k
            · obtain rfl : M = 12 := by omega
              have e1 := HSS.out
              have e3 := CS.out
              have e4 : (12 : Int) + 1 = 13 := rfl
              rw [e4, cum_13] at e3
              omega
          go_wp2_with (go_at_call 39; refine (rlength_any _ _ _).mono ?_; rintro e w' ⟨rfl, rfl⟩)
          go_roundw
          case rel => exact ⟨M + 1, by omega, by omega, by have e1 := HSS.out; rw [CS.out]; omega, by have e1 := HSS.out; rw [CS.out]; congr 1; omega, rfl⟩
          case measure => simp [intOf]; omega
        · have hmonth : S < lenI Y M * 86400000000000 := by omega
          go_wp2_with (go_at_call 39; refine (rlength_any _ _ _).mono ?_; rintro e w' ⟨rfl, rfl⟩)
          clear CS hge lp0
          go_loopw [7] (fun t wr => ∃ d : Int, 1 ≤ d ∧ d ≤ lenI Y M ∧ 0 ≤ S - (d - 1) * 86400000000000 ∧ t = .int .u64 (S - (d - 1) * 86400000000000) ∧
              wr = w3.alloc (.cells #[.int .i64 Y, .int .i64 M, .int .i64 d, .int .i64 0, .int .i64 0, .int .i64 0, .int .i64 0, .int .i64 0] 50)) (fun t _ => (intOf t).toNat)
          case atStart => exact ⟨1, by omega, by omega, by omega, by simp, rfl⟩
          case round =>
            obtain ⟨d, d1, d2, L0, rfl, rfl⟩ := hrel
            obtain ⟨L, hL⟩ : ∃ L, L = S - (d - 1) * 86400000000000 := ⟨_, rfl⟩
            have lle : L ≤ X := by omega
            have HLL := Lib.hid hL
            rw [← hL] at L0 ⊢
            clear hL
            by_cases hge : 86400000000000 ≤ L
            · go_wp2
              go_roundw
              case rel => exact ⟨d + 1, by omega, by have := HLL.out; omega, by have := HLL.out; omega, by have := HLL.out; congr 1; omega, rfl⟩
              case measure => simp [intOf]; omega
            · go_wp2
              obtain ⟨hNN, hLn⟩ : (X + -8520336000000000000 = daysI Y M d * 86400000000000 + L) ∧ L < 86400000000000 := by
                have e1 := HR.out
                have e2 := HSS.out
                have e3 := HLL.out
                refine ⟨?_, by omega⟩
                unfold daysI
                omega
              refine bodyPost_ret (v := .agg #[.int .i64 Y, .int .i64 M, .int .i64 d, .int .i64 (L / 3600000000000), .int .i64 (L / 60000000000 % 60), .int .i64 (L / 1000000000 % 60), .int .i64 (L / 1000 % 1000000 * 1000), .int .i64 0])
                (by simp [results, Tryz.results24, go_sem, hc3, hz3, hc2, hz2]) rfl
                ⟨Y, M, d, _, _, _, _, rfl, ⟨rdate_right Y1 Y2 d1 d2 L0 hLn, by rw [HC.out]; exact rdate_nanos hNN⟩, ?_⟩
              have hle := Nat.le_refl w.heap.size
              exact ((((((((B3.setCell (p := ⟨w.heap.size, 0, none⟩) hle _).setCell (p := ⟨w.heap.size, 1, none⟩) hle _).setCell (p := ⟨w.heap.size, 2, none⟩) hle _).setCell (p := ⟨w.heap.size, 3, none⟩) hle _).setCell (p := ⟨w.heap.size, 4, none⟩) hle _).setCell (p := ⟨w.heap.size, 5, none⟩) hle _).setCell (p := ⟨w.heap.size, 6, none⟩) hle _).setCell (p := ⟨w.heap.size, 7, none⟩) hle _).alloc (by simp; omega) _
set_option maxHeartbeats 4000000 in
set_option maxRecDepth 100000 in
theorem rdate_low (n : Int) (w : World) (h : n < -8520336000000000000) : Calls Tryz.prog 24 #[.int .i64 n] w (DateAns n w) := by
  have hb1 : Below w.heap.size w (w.alloc (.cells #[.int .i64 0, .int .i64 0, .int .i64 0, .int .i64 0, .int .i64 0, .int .i64 0, .int .i64 0, .int .i64 0] 50)) := (Below.refl _ _).alloc (Nat.le_refl _) _
  have HL := Lib.hid rlow_nanos
  have HH := Lib.hid rhigh_nanos
  go_enter Tryz.func24, Tryz.ntmps24
  go_wp2_with fail
  refine (rnanos_yes _ _ _ _ _ _ _ _ _ rlow_right).mono ?_
  rintro e w2 ⟨rfl, hb2⟩
  have B2 : Below w.heap.size w w2 := hb1.trans (hb2.mono (by simp))
  obtain ⟨hc2, hf2⟩ := bcell hb2
  have hz2 : w.heap.size < w2.heap.size := by have := hb2.size; simp at this; omega
  rw [HL.out]
  clear hb1 hb2 HL
  go_wp2_with fail
  refine (rnanos_yes _ _ _ _ _ _ _ _ _ rhigh_right).mono ?_
  rintro e w3 ⟨rfl, hb3⟩
  have B3 : Below w.heap.size w w3 := B2.trans (hb3.mono B2.size)
  obtain ⟨hc3, hf3⟩ := bcell hb3
  have hz3 : w.heap.size < w3.heap.size := by have := hb3.size; omega
  rw [HH.out]
  clear hb3 HH B2
  go_wp2
  obtain ⟨X, hX⟩ : ∃ X : Int, X = 0 := ⟨_, rfl⟩
  have x1 : 0 ≤ X := by omega
  have x2 : X < 17387827200000000000 := by omega
  have HC := Lib.hid (show clamp n - clamp n % 1000 = (X + -8520336000000000000) - (X + -8520336000000000000) % 1000 by
    rw [show clamp n = X + -8520336000000000000 by unfold clamp; rw [if_pos (by omega)]; omega])
  have HX := Lib.hid hX
  clear hX
  go_loopw [7] (fun t wr => ∃ Y : Int, 1700 ≤ Y ∧ Y ≤ 2250 ∧ 0 ≤ X - (dby Y - 620547) * 86400000000000 ∧ t = .int .u64 (X - (dby Y - 620547) * 86400000000000) ∧
      wr = w3.alloc (.cells #[.int .i64 Y, .int .i64 1, .int .i64 1, .int .i64 0, .int .i64 0, .int .i64 0, .int .i64 0, .int .i64 0] 50)) (fun t _ => (intOf t).toNat)
  case atStart => exact ⟨1700, by omega, by omega, by rw [dby_1700]; omega, by rw [dby_1700, HX.out]; rfl, rfl⟩
  case round =>
    obtain ⟨Y, Y1, Y2, R0, rfl, rfl⟩ := hrel
    obtain ⟨R, hR⟩ : ∃ R, R = X - (dby Y - 620547) * 86400000000000 := ⟨_, rfl⟩
    have HR := Lib.hid hR
    rw [← hR] at R0 ⊢
    have rle : R ≤ X := by have := dby_mono 1700 Y Y1; rw [dby_1700] at this; omega
    have lb := lenI_bd Y 2
    have HT := Lib.hid (lenI_two Y)
    have HS := Lib.hid (dby_succ Y)
    clear hR
    by_cases hge : (337 + lenI Y 2) * 86400000000000 ≤ R
    · have hlt : Y < 2250 := by
        by_cases k : Y < 2250
        · exact k
        · obtain rfl : Y = 2250 := by omega
          have e1 := HR.out
          have e2 := HT.out
          have e3 := HS.out
          have e4 : (2250 : Int) + 1 = 2251 := rfl
          rw [e4, dby_2251] at e3
          omega
      go_wp2_with (go_at_call 39; refine (rlength_any _ _ _).mono ?_; rintro e w' ⟨rfl, rfl⟩)
      go_roundw
      case rel => exact ⟨Y + 1, by omega, by omega, by have e1 := HR.out; have e2 := HT.out; have e3 := HS.out; rw [e3]; omega, by have e1 := HR.out; have e2 := HT.out; have e3 := HS.out; rw [e3]; congr 1; omega, rfl⟩
      case measure => simp [intOf]; omega
    · have hyear : R < (365 + lp Y) * 86400000000000 := by have e2 := HT.out; omega
      go_wp2_with (go_at_call 39; refine (rlength_any _ _ _).mono ?_; rintro e w' ⟨rfl, rfl⟩)
      clear HS HT hge lb
      go_loopw [7] (fun t wr => ∃ M : Int, 1 ≤ M ∧ M ≤ 12 ∧ 0 ≤ R - cum Y M * 86400000000000 ∧ t = .int .u64 (R - cum Y M * 86400000000000) ∧
          wr = w3.alloc (.cells #[.int .i64 Y, .int .i64 M, .int .i64 1, .int .i64 0, .int .i64 0, .int .i64 0, .int .i64 0, .int .i64 0] 50)) (fun t _ => (intOf t).toNat)
      case atStart => exact ⟨1, by omega, by omega, by rw [cum_one]; omega, by rw [cum_one]; simp, rfl⟩
      case round =>
        obtain ⟨M, M1, M2, S0, rfl, rfl⟩ := hrel
        obtain ⟨S, hS⟩ : ∃ S, S = R - cum Y M * 86400000000000 := ⟨_, rfl⟩
        have cb := cum_bd Y M M1 M2
        have sle : S ≤ X := by omega
        have HSS := Lib.hid hS
        rw [← hS] at S0 ⊢
        have lb := lenI_bd Y M
        have lp0 := lenI_pos Y M M1 M2
        have CS := Lib.hid (cum_succ Y M M1 M2)
        clear hS
        by_cases hge : lenI Y M * 86400000000000 ≤ S
        · have hlt : M < 12 := by
            by_cases k : M < 12
            · exact k
            · obtain rfl : M = 12 := by omega
              have e1 := HSS.out
              have e3 := CS.out
              have e4 : (12 : Int) + 1 = 13 := rfl
              rw [e4, cum_13] at e3
              omega
          go_wp2_with (go_at_call 39; refine (rlength_any _ _ _).mono ?_; rintro e w' ⟨rfl, rfl⟩)
          go_roundw
          case rel => exact ⟨M + 1, by omega, by omega, by have e1 := HSS.out; rw [CS.out]; omega, by have e1 := HSS.out; rw [CS.out]; congr 1; omega, rfl⟩
          case measure => simp [intOf]; omega
        · have hmonth : S < lenI Y M * 86400000000000 := by omega
          go_wp2_with (go_at_call 39; refine (rlength_any _ _ _).mono ?_; rintro e w' ⟨rfl, rfl⟩)
          clear CS hge lp0
          go_loopw [7] (fun t wr => ∃ d : Int, 1 ≤ d ∧ d ≤ lenI Y M ∧ 0 ≤ S - (d - 1) * 86400000000000 ∧ t = .int .u64 (S - (d - 1) * 86400000000000) ∧
              wr = w3.alloc (.cells #[.int .i64 Y, .int .i64 M, .int .i64 d, .int .i64 0, .int .i64 0, .int .i64 0, .int .i64 0, .int .i64 0] 50)) (fun t _ => (intOf t).toNat)
          case atStart => exact ⟨1, by omega, by omega, by omega, by simp, rfl⟩
          case round =>
            obtain ⟨d, d1, d2, L0, rfl, rfl⟩ := hrel
            obtain ⟨L, hL⟩ : ∃ L, L = S - (d - 1) * 86400000000000 := ⟨_, rfl⟩
            have lle : L ≤ X := by omega
            have HLL := Lib.hid hL
            rw [← hL] at L0 ⊢
            clear hL
            by_cases hge : 86400000000000 ≤ L
            · go_wp2
              go_roundw
              case rel => exact ⟨d + 1, by omega, by have := HLL.out; omega, by have := HLL.out; omega, by have := HLL.out; congr 1; omega, rfl⟩
              case measure => simp [intOf]; omega
            · go_wp2
              obtain ⟨hNN, hLn⟩ : (X + -8520336000000000000 = daysI Y M d * 86400000000000 + L) ∧ L < 86400000000000 := by
                have e1 := HR.out
                have e2 := HSS.out
                have e3 := HLL.out
                refine ⟨?_, by omega⟩
                unfold daysI
                omega
              refine bodyPost_ret (v := .agg #[.int .i64 Y, .int .i64 M, .int .i64 d, .int .i64 (L / 3600000000000), .int .i64 (L / 60000000000 % 60), .int .i64 (L / 1000000000 % 60), .int .i64 (L / 1000 % 1000000 * 1000), .int .i64 0])
                (by simp [results, Tryz.results24, go_sem, hc3, hz3, hc2, hz2]) rfl
                ⟨Y, M, d, _, _, _, _, rfl, ⟨rdate_right Y1 Y2 d1 d2 L0 hLn, by rw [HC.out]; exact rdate_nanos hNN⟩, ?_⟩
              have hle := Nat.le_refl w.heap.size
              exact ((((((((B3.setCell (p := ⟨w.heap.size, 0, none⟩) hle _).setCell (p := ⟨w.heap.size, 1, none⟩) hle _).setCell (p := ⟨w.heap.size, 2, none⟩) hle _).setCell (p := ⟨w.heap.size, 3, none⟩) hle _).setCell (p := ⟨w.heap.size, 4, none⟩) hle _).setCell (p := ⟨w.heap.size, 5, none⟩) hle _).setCell (p := ⟨w.heap.size, 6, none⟩) hle _).setCell (p := ⟨w.heap.size, 7, none⟩) hle _).alloc (by simp; omega) _
set_option maxHeartbeats 4000000 in
set_option maxRecDepth 100000 in
theorem rdate_high (n : Int) (w : World) (h : 8867491199999999000 < n) : Calls Tryz.prog 24 #[.int .i64 n] w (DateAns n w) := by
  have hb1 : Below w.heap.size w (w.alloc (.cells #[.int .i64 0, .int .i64 0, .int .i64 0, .int .i64 0, .int .i64 0, .int .i64 0, .int .i64 0, .int .i64 0] 50)) := (Below.refl _ _).alloc (Nat.le_refl _) _
  have HL := Lib.hid rlow_nanos
  have HH := Lib.hid rhigh_nanos
  go_enter Tryz.func24, Tryz.ntmps24
  go_wp2_with fail
  refine (rnanos_yes _ _ _ _ _ _ _ _ _ rlow_right).mono ?_
  rintro e w2 ⟨rfl, hb2⟩
  have B2 : Below w.heap.size w w2 := hb1.trans (hb2.mono (by simp))
  obtain ⟨hc2, hf2⟩ := bcell hb2
  have hz2 : w.heap.size < w2.heap.size := by have := hb2.size; simp at this; omega
  rw [HL.out]
  clear hb1 hb2 HL
  go_wp2_with fail
  refine (rnanos_yes _ _ _ _ _ _ _ _ _ rhigh_right).mono ?_
  rintro e w3 ⟨rfl, hb3⟩
  have B3 : Below w.heap.size w w3 := B2.trans (hb3.mono B2.size)
  obtain ⟨hc3, hf3⟩ := bcell hb3
  have hz3 : w.heap.size < w3.heap.size := by have := hb3.size; omega
  rw [HH.out]
  clear hb3 HH B2
  go_wp2
  obtain ⟨X, hX⟩ : ∃ X : Int, X = 17387827199999999000 := ⟨_, rfl⟩
  have x1 : 0 ≤ X := by omega
  have x2 : X < 17387827200000000000 := by omega
  have HC := Lib.hid (show clamp n - clamp n % 1000 = (X + -8520336000000000000) - (X + -8520336000000000000) % 1000 by
    unfold clamp; rw [if_neg (by omega)]; split <;> omega)
  have HX := Lib.hid hX
  clear hX
  go_loopw [7] (fun t wr => ∃ Y : Int, 1700 ≤ Y ∧ Y ≤ 2250 ∧ 0 ≤ X - (dby Y - 620547) * 86400000000000 ∧ t = .int .u64 (X - (dby Y - 620547) * 86400000000000) ∧
      wr = w3.alloc (.cells #[.int .i64 Y, .int .i64 1, .int .i64 1, .int .i64 0, .int .i64 0, .int .i64 0, .int .i64 0, .int .i64 0] 50)) (fun t _ => (intOf t).toNat)
  case atStart => exact ⟨1700, by omega, by omega, by rw [dby_1700]; omega, by rw [dby_1700, HX.out, u64_in _ (by omega) (by omega)]; rfl, rfl⟩
  case round =>
    obtain ⟨Y, Y1, Y2, R0, rfl, rfl⟩ := hrel
    obtain ⟨R, hR⟩ : ∃ R, R = X - (dby Y - 620547) * 86400000000000 := ⟨_, rfl⟩
    have HR := Lib.hid hR
    rw [← hR] at R0 ⊢
    have rle : R ≤ X := by have := dby_mono 1700 Y Y1; rw [dby_1700] at this; omega
    have lb := lenI_bd Y 2
    have HT := Lib.hid (lenI_two Y)
    have HS := Lib.hid (dby_succ Y)
    clear hR
    by_cases hge : (337 + lenI Y 2) * 86400000000000 ≤ R
    · have hlt : Y < 2250 := by
        by_cases k : Y < 2250
        · exact k
        · obtain rfl : Y = 2250 := by omega
          have e1 := HR.out
          have e2 := HT.out
          have e3 := HS.out
          have e4 : (2250 : Int) + 1 = 2251 := rfl
          rw [e4, dby_2251] at e3
          omega
      go_wp2_with (go_at_call 39; refine (rlength_any _ _ _).mono ?_; rintro e w' ⟨rfl, rfl⟩)
      go_roundw
      case rel => exact ⟨Y + 1, by omega, by omega, by have e1 := HR.out; have e2 := HT.out; have e3 := HS.out; rw [e3]; omega, by have e1 := HR.out; have e2 := HT.out; have e3 := HS.out; rw [e3]; congr 1; omega, rfl⟩
      case measure => simp [intOf]; omega
    · have hyear : R < (365 + lp Y) * 86400000000000 := by have e2 := HT.out; omega
      go_wp2_with (go_at_call 39; refine (rlength_any _ _ _).mono ?_; rintro e w' ⟨rfl, rfl⟩)
      clear HS HT hge lb
      go_loopw [7] (fun t wr => ∃ M : Int, 1 ≤ M ∧ M ≤ 12 ∧ 0 ≤ R - cum Y M * 86400000000000 ∧ t = .int .u64 (R - cum Y M * 86400000000000) ∧
          wr = w3.alloc (.cells #[.int .i64 Y, .int .i64 M, .int .i64 1, .int .i64 0, .int .i64 0, .int .i64 0, .int .i64 0, .int .i64 0] 50)) (fun t _ => (intOf t).toNat)
      case atStart => exact ⟨1, by omega, by omega, by rw [cum_one]; omega, by rw [cum_one]; simp, rfl⟩
      case round =>
        obtain ⟨M, M1, M2, S0, rfl, rfl⟩ := hrel
        obtain ⟨S, hS⟩ : ∃ S, S = R - cum Y M * 86400000000000 := ⟨_, rfl⟩
        have cb := cum_bd Y M M1 M2
        have sle : S ≤ X := by omega
        have HSS := Lib.hid hS
        rw [← hS] at S0 ⊢
        have lb := lenI_bd Y M
        have lp0 := lenI_pos Y M M1 M2
        have CS := Lib.hid (cum_succ Y M M1 M2)
        clear hS
        by_cases hge : lenI Y M * 86400000000000 ≤ S
        · have hlt : M < 12 := by
            by_cases k : M < 12
            · exact k
            · obtain rfl : M = 12 := by omega
              have e1 := HSS.out
              have e3 := CS.out
              have e4 : (12 : Int) + 1 = 13 := rfl
              rw [e4, cum_13] at e3
              omega
          go_wp2_with (go_at_call 39; refine (rlength_any _ _ _).mono ?_; rintro e w' ⟨rfl, rfl⟩)
          go_roundw
          case rel => exact ⟨M + 1, by omega, by omega, by have e1 := HSS.out; rw [CS.out]; omega, by have e1 := HSS.out; rw [CS.out]; congr 1; omega, rfl⟩
          case measure => simp [intOf]; omega
        · have hmonth : S < lenI Y M * 86400000000000 := by omega
          go_wp2_with (go_at_call 39; refine (rlength_any _ _ _).mono ?_; rintro e w' ⟨rfl, rfl⟩)
          clear CS hge lp0
          go_loopw [7] (fun t wr => ∃ d : Int, 1 ≤ d ∧ d ≤ lenI Y M ∧ 0 ≤ S - (d - 1) * 86400000000000 ∧ t = .int .u64 (S - (d - 1) * 86400000000000) ∧
              wr = w3.alloc (.cells #[.int .i64 Y, .int .i64 M, .int .i64 d, .int .i64 0, .int .i64 0, .int .i64 0, .int .i64 0, .int .i64 0] 50)) (fun t _ => (intOf t).toNat)
          case atStart => exact ⟨1, by omega, by omega, by omega, by simp, rfl⟩
          case round =>
            obtain ⟨d, d1, d2, L0, rfl, rfl⟩ := hrel
            obtain ⟨L, hL⟩ : ∃ L, L = S - (d - 1) * 86400000000000 := ⟨_, rfl⟩
            have lle : L ≤ X := by omega
            have HLL := Lib.hid hL
            rw [← hL] at L0 ⊢
            clear hL
            by_cases hge : 86400000000000 ≤ L
            · go_wp2
              go_roundw
              case rel => exact ⟨d + 1, by omega, by have := HLL.out; omega, by have := HLL.out; omega, by have := HLL.out; congr 1; omega, rfl⟩
              case measure => simp [intOf]; omega
            · go_wp2
              obtain ⟨hNN, hLn⟩ : (X + -8520336000000000000 = daysI Y M d * 86400000000000 + L) ∧ L < 86400000000000 := by
                have e1 := HR.out
                have e2 := HSS.out
                have e3 := HLL.out
                refine ⟨?_, by omega⟩
                unfold daysI
                omega
              refine bodyPost_ret (v := .agg #[.int .i64 Y, .int .i64 M, .int .i64 d, .int .i64 (L / 3600000000000), .int .i64 (L / 60000000000 % 60), .int .i64 (L / 1000000000 % 60), .int .i64 (L / 1000 % 1000000 * 1000), .int .i64 0])
                (by simp [results, Tryz.results24, go_sem, hc3, hz3, hc2, hz2]) rfl
                ⟨Y, M, d, _, _, _, _, rfl, ⟨rdate_right Y1 Y2 d1 d2 L0 hLn, by rw [HC.out]; exact rdate_nanos hNN⟩, ?_⟩
              have hle := Nat.le_refl w.heap.size
              exact ((((((((B3.setCell (p := ⟨w.heap.size, 0, none⟩) hle _).setCell (p := ⟨w.heap.size, 1, none⟩) hle _).setCell (p := ⟨w.heap.size, 2, none⟩) hle _).setCell (p := ⟨w.heap.size, 3, none⟩) hle _).setCell (p := ⟨w.heap.size, 4, none⟩) hle _).setCell (p := ⟨w.heap.size, 5, none⟩) hle _).setCell (p := ⟨w.heap.size, 6, none⟩) hle _).setCell (p := ⟨w.heap.size, 7, none⟩) hle _).alloc (by simp; omega) _
theorem rdate_any (n : Int) (w : World) : Calls Tryz.prog 24 #[.int .i64 n] w (DateAns n w) := by
  by_cases h1 : n < -8520336000000000000
  · exact rdate_low n w h1
  · by_cases h2 : 8867491199999999000 < n
    · exact rdate_high n w h2
    · exact rdate_mid n w (by omega) (by omega)
end Go.Proofs.YtmmghppjhmdikaaGreatDoor.Cal
