/- What the document's own answers for package cal are (leap years, lengths, right dates, days, nanoseconds): the same numbers. All memory that was there stays. No conditions. -/
import Derived.Test.YtameffdjjcpbkaaDoorMoment
namespace Go.Proofs.YtameffdjjcpbkaaDoor
open Go.ChangeShapes Go.WideShapes Go.ChangeAt Go.RowKit

theorem rleap_any (y : Int) (w : World) :
    Calls Tryd.prog 15 #[.int .i64 y] w fun e w' => e = .returned (.bool (leapB y)) ∧ w' = w := by
  have e1 := tmod_zero y 4
  have e2 := tmod_nonzero y 100
  have e3 := tmod_zero y 400
  have hd : leapB y = (decide (y % 400 = 0) || decide (y % 4 = 0) && decide (y % 100 ≠ 0)) := by unfold leapB; simp [Bool.or_comm]
  rw [hd]
  clear hd
  by_cases h3 : y % 400 = 0
  · rw [decide_eq_true h3] at e3 ⊢
    clear h3 e1 e2
    go_enter Tryd.func15, Tryd.ntmps15
    go_wp2
    go_ret
    exact ⟨rfl, rfl⟩
  · rw [decide_eq_false h3] at e3 ⊢
    by_cases h1 : y % 4 = 0
    · rw [decide_eq_true h1] at e1 ⊢
      have e4 : decide (y % 100 ≠ 0) = (y.tmod 100 != 0) := e2.symm
      rw [e4]
      clear h1 h3 e2 e4
      go_enter Tryd.func15, Tryd.ntmps15
      go_wp2
      go_ret
      exact ⟨rfl, rfl⟩
    · rw [decide_eq_false h1] at e1 ⊢
      clear h1 h3 e2
      go_enter Tryd.func15, Tryd.ntmps15
      go_wp2
      go_ret
      exact ⟨rfl, rfl⟩

theorem rlength_any (y m : Int) (w : World) :
    Calls Tryd.prog 17 #[.int .i64 y, .int .i64 m] w fun e w' => e = .returned (.int .i64 (lenI y m)) ∧ w' = w := by
  by_cases h2 : m = 2
  · subst h2
    by_cases hy : leapB y = true
    · have e : lenI y 2 = 29 := by unfold lenI lp; rw [if_pos rfl, if_pos hy]; rfl
      rw [e]
      clear e
      go_enter Tryd.func17, Tryd.ntmps17
      go_wp2_with (go_at_call 15; refine (rleap_any _ _).mono ?_; rintro e w' ⟨rfl, rfl⟩)
      go_ret
      exact ⟨rfl, rfl⟩
    · have e : lenI y 2 = 28 := by unfold lenI lp; rw [if_pos rfl, if_neg hy]; rfl
      have hf : leapB y = false := by simpa using hy
      rw [e]
      clear e hy
      go_enter Tryd.func17, Tryd.ntmps17
      go_wp2_with (go_at_call 15; refine (rleap_any _ _).mono ?_; rintro e w' ⟨rfl, rfl⟩)
      go_ret
      exact ⟨rfl, rfl⟩
  · have g2 : (m == 2) = false := beq_eq_false_iff_ne.2 h2
    by_cases h30 : m = 4 ∨ m = 6 ∨ m = 9 ∨ m = 11
    · have e : lenI y m = 30 := by unfold lenI; rw [if_neg h2, if_pos h30]
      rw [e]
      clear e h2
      rcases h30 with rfl | rfl | rfl | rfl
      all_goals
        clear g2
        go_enter Tryd.func17, Tryd.ntmps17
        go_wp2
        go_ret
        exact ⟨rfl, rfl⟩
    · have g4 : (m == 4) = false := beq_eq_false_iff_ne.2 (by omega)
      have g6 : (m == 6) = false := beq_eq_false_iff_ne.2 (by omega)
      have g9 : (m == 9) = false := beq_eq_false_iff_ne.2 (by omega)
      have g11 : (m == 11) = false := beq_eq_false_iff_ne.2 (by omega)
      by_cases h31 : 1 ≤ m ∧ m ≤ 12
      · have e : lenI y m = 31 := by unfold lenI; rw [if_neg h2, if_neg h30, if_pos h31]
        rw [e]
        obtain ⟨a, b⟩ := h31
        clear e h2 h30
        go_enter Tryd.func17, Tryd.ntmps17
        go_wp2
        go_ret
        exact ⟨rfl, rfl⟩
      · have e : lenI y m = 0 := lenI_none y m h31
        rw [e]
        clear e h2 h30
        rcases (show m < 1 ∨ (1 ≤ m ∧ 12 < m) by omega) with h | ⟨h, h'⟩
        all_goals
          clear h31
          go_enter Tryd.func17, Tryd.ntmps17
          go_wp2
          go_ret
          exact ⟨rfl, rfl⟩

def dayB (y m d : Int) : Bool := decide ((1700 ≤ y ∧ y ≤ 2250) ∧ 1 ≤ d ∧ d ≤ lenI y m)
theorem rday_any (y m d : Int) (w : World) :
    Calls Tryd.prog 27 #[.int .i64 y, .int .i64 m, .int .i64 d] w fun e w' => e = .returned (.bool (dayB y m d)) ∧ w' = w := by
  by_cases hin : 1700 ≤ y ∧ y ≤ 2250 ∧ 1 ≤ m ∧ m ≤ 12 ∧ 1 ≤ d
  · obtain ⟨a, b, c, c', c''⟩ := hin
    have e : dayB y m d = decide (d ≤ lenI y m) := by unfold dayB; rw [decide_eq_decide]; omega
    rw [e]
    clear e
    go_enter Tryd.func27, Tryd.ntmps27
    go_wp2_with (go_at_call 17; refine (rlength_any _ _ _).mono ?_; rintro e w' ⟨rfl, rfl⟩)
    go_ret
    exact ⟨rfl, rfl⟩
  · have e : dayB y m d = false := by
      unfold dayB
      rw [decide_eq_false_iff_not]
      rintro ⟨h1, h2, h3⟩
      have := month_of_day h2 h3
      omega
    rw [e]
    clear e
    rcases (show y < 1700 ∨ (1700 ≤ y ∧ 2250 < y) ∨ (1700 ≤ y ∧ y ≤ 2250 ∧ m < 1) ∨ (1700 ≤ y ∧ y ≤ 2250 ∧ 1 ≤ m ∧ 12 < m) ∨ (1700 ≤ y ∧ y ≤ 2250 ∧ 1 ≤ m ∧ m ≤ 12 ∧ d < 1) by omega) with h | ⟨h, h'⟩ | ⟨h, h', h''⟩ | ⟨h, h', h'', h3⟩ | ⟨h, h', h'', h3, h4⟩
    all_goals
      clear hin
      go_enter Tryd.func27, Tryd.ntmps27
      go_wp2
      go_ret
      exact ⟨rfl, rfl⟩

theorem right_day (y m d h i s n z : Int) : rightB y m d h i s n z = (dayB y m d && decide ((0 ≤ h ∧ h ≤ 23) ∧ (0 ≤ i ∧ i ≤ 59) ∧ (0 ≤ s ∧ s ≤ 59) ∧ (0 ≤ n ∧ n ≤ 999999999) ∧ n % 1000 = 0 ∧ (-1439 ≤ z ∧ z ≤ 1439))) := by
  unfold rightB dayB
  rw [Bool.eq_iff_iff]
  simp only [Bool.and_eq_true, decide_eq_true_iff]
  constructor
  · rintro ⟨a, b, c⟩; exact ⟨⟨a, b⟩, c⟩
  · rintro ⟨⟨a, b⟩, c⟩; exact ⟨a, b, c⟩
set_option maxHeartbeats 2000000 in
theorem rright_any (y m d h i s n z : Int) (w : World) :
    Calls Tryd.prog 19 #[.agg #[.int .i64 y, .int .i64 m, .int .i64 d, .int .i64 h, .int .i64 i, .int .i64 s, .int .i64 n, .int .i64 z]] w
      fun e w' => e = .returned (.bool (rightB y m d h i s n z)) ∧ Below w.heap.size w w' := by
  have hb : Below w.heap.size w (w.alloc (.cells #[.int .i64 y, .int .i64 m, .int .i64 d, .int .i64 h, .int .i64 i, .int .i64 s, .int .i64 n, .int .i64 z] 23)) := (Below.refl _ _).alloc (Nat.le_refl _) _
  rw [right_day]
  by_cases hd : dayB y m d = true
  case neg =>
    have hd' : dayB y m d = false := by simpa using hd
    have e : (dayB y m d && decide ((0 ≤ h ∧ h ≤ 23) ∧ (0 ≤ i ∧ i ≤ 59) ∧ (0 ≤ s ∧ s ≤ 59) ∧ (0 ≤ n ∧ n ≤ 999999999) ∧ n % 1000 = 0 ∧ (-1439 ≤ z ∧ z ≤ 1439))) = false := by rw [hd']; rfl
    rw [e]
    clear hd e
    go_enter Tryd.func19, Tryd.ntmps19
    go_wp2_with (go_at_call 27; refine (rday_any _ _ _ _).mono ?_; rintro e w' ⟨rfl, rfl⟩)
    go_ret
    exact ⟨rfl, hb⟩
  rw [hd, Bool.true_and]
  by_cases hin : (0 ≤ h ∧ h ≤ 23 ∧ 0 ≤ i ∧ i ≤ 59 ∧ 0 ≤ s ∧ s ≤ 59) ∧ 0 ≤ n ∧ n ≤ 999999999 ∧ n % 1000 = 0 ∧ -1439 ≤ z
  · obtain ⟨⟨a1, a2, a3, a4, a5, a6⟩, a7, a8, a9, a10⟩ := hin
    have e : decide ((0 ≤ h ∧ h ≤ 23) ∧ (0 ≤ i ∧ i ≤ 59) ∧ (0 ≤ s ∧ s ≤ 59) ∧ (0 ≤ n ∧ n ≤ 999999999) ∧ n % 1000 = 0 ∧ (-1439 ≤ z ∧ z ≤ 1439)) = decide (z ≤ 1439) := by rw [decide_eq_decide]; omega
    rw [e]
    have e9 : (n % 1000 == 0) = true := beq_iff_eq.2 a9
    clear e a9
    go_enter Tryd.func19, Tryd.ntmps19
    go_wp2_with (go_at_call 27; refine (rday_any _ _ _ _).mono ?_; rintro e w' ⟨rfl, rfl⟩)
    go_ret
    exact ⟨rfl, hb⟩
  · have e : decide ((0 ≤ h ∧ h ≤ 23) ∧ (0 ≤ i ∧ i ≤ 59) ∧ (0 ≤ s ∧ s ≤ 59) ∧ (0 ≤ n ∧ n ≤ 999999999) ∧ n % 1000 = 0 ∧ (-1439 ≤ z ∧ z ≤ 1439)) = false := by rw [decide_eq_false_iff_not]; omega
    rw [e]
    clear e
    by_cases h6 : 0 ≤ h ∧ h ≤ 23 ∧ 0 ≤ i ∧ i ≤ 59 ∧ 0 ≤ s ∧ s ≤ 59
    · obtain ⟨a1, a2, a3, a4, a5, a6⟩ := h6
      rcases (show n < 0 ∨ (0 ≤ n ∧ 999999999 < n) ∨ (0 ≤ n ∧ n ≤ 999999999 ∧ (n % 1000 == 0) = false) ∨ (0 ≤ n ∧ n ≤ 999999999 ∧ (n % 1000 == 0) = true ∧ z < -1439) by
          simp only [beq_eq_false_iff_ne, beq_iff_eq, ne_eq]; omega) with h | ⟨h, h'⟩ | ⟨h, h', h''⟩ | ⟨h, h', h'', h3⟩
      all_goals
        clear hin
        go_enter Tryd.func19, Tryd.ntmps19
        go_wp2_with (go_at_call 27; refine (rday_any _ _ _ _).mono ?_; rintro e w' ⟨rfl, rfl⟩)
        go_ret
        exact ⟨rfl, hb⟩
    · rcases (show h < 0 ∨ (0 ≤ h ∧ 23 < h) ∨ (0 ≤ h ∧ h ≤ 23 ∧ i < 0) ∨ (0 ≤ h ∧ h ≤ 23 ∧ 0 ≤ i ∧ 59 < i) ∨ (0 ≤ h ∧ h ≤ 23 ∧ 0 ≤ i ∧ i ≤ 59 ∧ s < 0) ∨ (0 ≤ h ∧ h ≤ 23 ∧ 0 ≤ i ∧ i ≤ 59 ∧ 0 ≤ s ∧ 59 < s) by omega)
          with h | ⟨h, h'⟩ | ⟨h, h', h''⟩ | ⟨h, h', h'', h3⟩ | ⟨h, h', h'', h3, h4⟩ | ⟨h, h', h'', h3, h4, h5⟩
      all_goals
        clear hin h6
        go_enter Tryd.func19, Tryd.ntmps19
        go_wp2_with (go_at_call 27; refine (rday_any _ _ _ _).mono ?_; rintro e w' ⟨rfl, rfl⟩)
        go_ret
        exact ⟨rfl, hb⟩
end Go.Proofs.YtameffdjjcpbkaaDoor
