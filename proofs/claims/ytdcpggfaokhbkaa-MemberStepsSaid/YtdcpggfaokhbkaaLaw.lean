/- MemberSteps, walked: every i, every n. -/
import Derived.Test.YtdcpggfaokhbkaaStepsAll
namespace Go.Proofs.Ytdcpggfaokhbkaa
open Go.ChangeShapes Go.WideShapes Go.ChangeAt Go.RowKit

theorem below_trans {w W W' : World} (h : Below w.heap.size w W) (h' : Below W.heap.size W W') : Below w.heap.size w W' := h.trans (h'.mono h.size)
theorem sp_four : sp 4 5 = 1 := by
  have h4 : hi (5 - 1) = 4 := by decide +kernel
  rw [sp_right 4 5 (by decide) (by rw [h4]; decide), h4, sp_few _ _ (by decide)]
theorem sp_zero : sp 0 5 = 3 := by
  have h4 : hi (5 - 1) = 4 := by decide +kernel
  rw [sp_left 0 5 (by decide) (by rw [h4]; decide), h4, show (4 : Nat) = 2 ^ 2 from rfl, sp_pow 2 0 (by decide)]

set_option maxHeartbeats 2000000 in
set_option maxRecDepth 100000 in
theorem shown_any (w : World) : Calls Try.prog 4 #[] w fun e w' => e = .returned (.bool true) ∧ Below w.heap.size w w' := by
  have H4 : Hid (∀ w, Calls Try.prog 5 #[.int .i64 4, .int .i64 5] w fun e w' => e = .returned (.int .i64 1) ∧ Below w.heap.size w w') := Lib.hid fun w => by
    have h := steps_yes 4 5 (by decide) (by decide) w
    rw [sp_four] at h
    exact h
  have H0 : Hid (∀ w, Calls Try.prog 5 #[.int .i64 0, .int .i64 5] w fun e w' => e = .returned (.int .i64 3) ∧ Below w.heap.size w w') := Lib.hid fun w => by
    have h := steps_yes 0 5 (by decide) (by decide) w
    rw [sp_zero] at h
    exact h
  go_enter Try.func4, Try.ntmps4
  go_wp2_with (first
    | (go_at_call 5; refine (H4.out _).mono ?_; rintro e w1 ⟨rfl, hb1⟩; clear H4)
    | (go_at_call 5; refine (H0.out _).mono ?_; rintro e w2 ⟨rfl, hb2⟩))
  go_ret
  exact ⟨rfl, below_trans hb1 hb2⟩

set_option maxHeartbeats 4000000 in
set_option maxRecDepth 100000 in
theorem walk_no (i n : Int) (h : ¬ (0 ≤ i ∧ i < n) ∨ 4096 < n) (w : World) :
    Calls Try.prog 3 #[.int .i64 i, .int .i64 n] w fun e w' => e = .returned (.bool true) ∧ Below w.heap.size w w' := by
  have HSH := Lib.hid (fun w => shown_any w)
  have HST := Lib.hid (steps_no i n h)
  by_cases h1 : i < 0
  · go_enter Try.func3, Try.ntmps3
    go_wp2_with (first
      | (go_at_call 4; refine (HSH.out _).mono ?_; rintro e w1 ⟨rfl, hb1⟩)
      | (go_at_call 5; refine (HST.out _).mono ?_; rintro e w2 ⟨rfl, hw⟩; obtain rfl := hw.symm; clear hw))
    go_ret
    exact ⟨rfl, hb1⟩
  · by_cases h2 : n ≤ i
    · go_enter Try.func3, Try.ntmps3
      go_wp2_with (first
        | (go_at_call 4; refine (HSH.out _).mono ?_; rintro e w1 ⟨rfl, hb1⟩)
        | (go_at_call 5; refine (HST.out _).mono ?_; rintro e w2 ⟨rfl, hw⟩; obtain rfl := hw.symm; clear hw))
      go_ret
      exact ⟨rfl, hb1⟩
    · have h3 : 4096 < n := by omega
      go_enter Try.func3, Try.ntmps3
      go_wp2_with (first
        | (go_at_call 4; refine (HSH.out _).mono ?_; rintro e w1 ⟨rfl, hb1⟩)
        | (go_at_call 5; refine (HST.out _).mono ?_; rintro e w2 ⟨rfl, hw⟩; obtain rfl := hw.symm; clear hw))
      go_ret
      exact ⟨rfl, hb1⟩

set_option maxHeartbeats 4000000 in
set_option maxRecDepth 100000 in
theorem walk_yes (i n : Nat) (hit : i < n) (hT : n ≤ 4096) (w : World) :
    Calls Try.prog 3 #[.int .i64 (i : Int), .int .i64 (n : Int)] w fun e w' => e = .returned (.bool true) ∧ Below w.heap.size w w' := by
  have HSH := Lib.hid (fun w => shown_any w)
  have HS := Lib.hid (fun w => steps_yes i n hit hT w)
  have HA := Lib.hid (fun w => steps_yes 0 n (by omega) hT w)
  have HB := Lib.hid (fun w => steps_yes (n - 1) n (by omega) hT w)
  rw [show (((n - 1 : Nat)) : Int) = (n : Int) - 1 by omega] at HB
  have f1 : sp i n ≤ 12 := sp_le 12 i n (by omega)
  have f2 : sp (n - 1) n ≤ sp 0 n := sp_first _ _
  have f3 : sp i n ≤ sp 0 n := sp_first _ _
  by_cases hp : ∃ k, n = 2 ^ k
  · have e1 : sp i n = sp 0 n := by obtain ⟨k, rfl⟩ := hp; rw [sp_pow k i hit, sp_pow k 0 (by omega)]
    have e2 : sp (n - 1) n = sp 0 n := by obtain ⟨k, rfl⟩ := hp; rw [sp_pow k _ (by omega), sp_pow k 0 (by omega)]
    have HT : Hid (∀ w, Calls Try.prog 6 #[.int .i64 (n : Int)] w fun e w' => e = .returned (.bool true) ∧ w' = w) := Lib.hid fun w => by
      obtain ⟨k, rfl⟩ := hp
      exact two_pow k (by
        refine Decidable.byContradiction fun hn => ?_
        have : 2 ^ 63 ≤ 2 ^ k := Nat.pow_le_pow_right (by decide) (by omega)
        omega) w
    rw [e1] at HS f1
    rw [e2] at HB
    clear e1 e2 f2 f3 hp
    generalize sp 0 n = a at *
    go_enter Try.func3, Try.ntmps3
    go_wp2_with (first
      | (go_at_call 4; refine (HSH.out _).mono ?_; rintro e w1 ⟨rfl, hb1⟩)
      | (go_at_call 5; refine (HS.out _).mono ?_; rintro e w2 ⟨rfl, hb2⟩; clear HS)
      | (go_at_call 6; refine (HT.out _).mono ?_; rintro e w3 ⟨rfl, hw⟩; obtain rfl := hw.symm; clear hw)
      | (go_at_call 5; refine (HA.out _).mono ?_; rintro e w4 ⟨rfl, hb4⟩; clear HA)
      | (go_at_call 5; refine (HB.out _).mono ?_; rintro e w5 ⟨rfl, hb5⟩))
    go_ret
    exact ⟨rfl, below_trans (below_trans (below_trans hb1 hb2) hb4) hb5⟩
  · have HT : Hid (∀ w, Calls Try.prog 6 #[.int .i64 (n : Int)] w fun e w' => e = .returned (.bool false) ∧ w' = w) := Lib.hid fun w => by
      refine (two_any n (by omega) (by omega) w).mono ?_
      rintro e w' ⟨⟨b, rfl, hb⟩, rfl⟩
      cases b with
      | true => exact absurd (hb rfl) hp
      | false => exact ⟨rfl, rfl⟩
    clear hp
    generalize sp 0 n = a at *
    generalize sp i n = s at *
    generalize sp (n - 1) n = b at *
    go_enter Try.func3, Try.ntmps3
    go_wp2_with (first
      | (go_at_call 4; refine (HSH.out _).mono ?_; rintro e w1 ⟨rfl, hb1⟩)
      | (go_at_call 5; refine (HS.out _).mono ?_; rintro e w2 ⟨rfl, hb2⟩; clear HS)
      | (go_at_call 6; refine (HT.out _).mono ?_; rintro e w3 ⟨rfl, hw⟩; obtain rfl := hw.symm; clear hw)
      | (go_at_call 5; refine (HA.out _).mono ?_; rintro e w4 ⟨rfl, hb4⟩; clear HA)
      | (go_at_call 5; refine (HB.out _).mono ?_; rintro e w5 ⟨rfl, hb5⟩))
    go_ret
    exact ⟨rfl, below_trans (below_trans (below_trans hb1 hb2) hb4) hb5⟩

theorem walk (i n : Int) (w : World) :
    Calls Try.prog 3 #[.int .i64 i, .int .i64 n] w fun e w' => e = .returned (.bool true) ∧ Below w.heap.size w w' := by
  by_cases h : ¬ (0 ≤ i ∧ i < n) ∨ 4096 < n
  · exact walk_no i n h w
  · have h1 : 0 ≤ i := by omega
    have h2 : 0 ≤ n := by omega
    obtain ⟨a, rfl⟩ := Int.eq_ofNat_of_zero_le h1
    obtain ⟨b, rfl⟩ := Int.eq_ofNat_of_zero_le h2
    exact walk_yes a b (by omega) (by omega) w
end Go.Proofs.Ytdcpggfaokhbkaa
