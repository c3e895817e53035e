/- What highest, Half and the document's Two answer. Conditions: what each theorem says. -/
import Derived.Test.YtdmaipebckbmpaaRows
import Derived.Test.YtdmaipebckbmpaaNum
import Derived.WalkKit
import Derived.ProofKit
import Derived.Below
import Derived.Lib.Hide
import Derived.Deep.QuietTactic
import Derived.BigQuiet
import Derived.Deep.RegionHeld3
import Derived.Laws.StructEq
import Derived.Laws.Small
import Derived.RegionTactic
import Derived.ChangeAlike
import Derived.LoopTactic
import Derived.Laws.Tables
import Derived.Deep.WholeRow
import Derived.Laws.AppendOwn
import Derived.Laws.OwnMore
import Derived.OwnWalk
import Derived.ArgAppend
namespace Go.Proofs.Ytdmaipebckbmpaa
open Go.ChangeShapes Go.WideShapes Go.ChangeAt Go.RowKit

set_option maxHeartbeats 1000000 in
set_option maxRecDepth 100000 in
theorem highest_any (n : Nat) (h0 : n ≠ 0) (h : n < 9223372036854775808) (w : World) :
    Calls Try.prog 12 #[.int .i64 (n : Int)] w fun e w' => e = .returned (.int .i64 ((hi n : Nat) : Int)) ∧ w' = w := by
  have hL := bitLen_hi n h0 (by omega)
  have hk : n.log2 < 63 := log2_lt n 63 h0 (by omega)
  have hp : hi n < 9223372036854775808 := Nat.lt_of_le_of_lt (hi_le n h0) h
  have hc : ((2 : Int) ^ n.log2) = ((hi n : Nat) : Int) := by unfold hi; simp
  have hw : wrap64 ((2 : Int) ^ n.log2) = ((hi n : Nat) : Int) := by rw [hc]; exact IntWalk.wrap64_in _ (by omega)
  have HW := Lib.hid hw
  clear hw hc hp
  go_enter Try.func12, Try.ntmps12
  go_wp2_with (go_at_call 13; refine (Try.bits_Len (n : Int) _ (by omega) (by omega)).mono ?_; rintro e w1 ⟨rfl, rfl⟩)
  go_ret
  exact ⟨by rw [← HW.out]; rfl, rfl⟩

/-- Half, as the document has it. -/
def halfI (n : Int) : Int := if n < 2 then 0 else ((hi (n.toNat - 1) : Nat) : Int)

set_option maxHeartbeats 1000000 in
set_option maxRecDepth 100000 in
theorem half_any (n : Int) (h : n < 9223372036854775808) (w : World) :
    Calls Try.prog 11 #[.int .i64 n] w fun e w' => e = .returned (.int .i64 (halfI n)) ∧ w' = w := by
  by_cases h2 : n < 2
  · have e : halfI n = 0 := if_pos h2
    rw [e]
    clear e
    go_enter Try.func11, Try.ntmps11
    go_wp2
    go_ret
    exact ⟨rfl, rfl⟩
  · have e : halfI n = ((hi (n - 1).toNat : Nat) : Int) := by unfold halfI; rw [if_neg h2, show n.toNat - 1 = (n - 1).toNat by omega]
    rw [e]
    clear e
    have HK : Hid (∀ w, Calls Try.prog 12 #[.int .i64 (n - 1)] w fun e w' => e = .returned (.int .i64 ((hi (n - 1).toNat : Nat) : Int)) ∧ w' = w) := Lib.hid fun w => by
      have := highest_any (n - 1).toNat (by omega) (by omega) w
      rwa [show (((n - 1).toNat : Nat) : Int) = n - 1 by omega] at this
    generalize ((hi (n - 1).toNat : Nat) : Int) = r at *
    go_enter Try.func11, Try.ntmps11
    go_wp2_with (go_at_call 12; refine (HK.out _).mono ?_; rintro e w1 ⟨rfl, rfl⟩)
    go_ret
    exact ⟨rfl, rfl⟩

set_option maxHeartbeats 1000000 in
set_option maxRecDepth 100000 in
theorem two_pow (k : Nat) (h : k < 63) (w : World) :
    Calls Try.prog 6 #[.int .i64 ((2 ^ k : Nat) : Int)] w fun e w' => e = .returned (.bool true) ∧ w' = w := by
  have hp : 2 ^ k < 9223372036854775808 := Nat.lt_of_lt_of_le (Nat.pow_lt_pow_right (by decide) h) (by decide)
  have h1 : 0 < 2 ^ k := Nat.two_pow_pos k
  have HH : Hid (∀ j, j ≤ k → (2 ^ j : Nat) ≤ 2 ^ k) := Lib.hid fun j hj => Nat.pow_le_pow_right (by decide) hj
  generalize hm : 2 ^ k = m at *
  have HM := Lib.hid hm
  clear hm h
  go_enter Try.func6, Try.ntmps6
  go_wp2
  go_loopw [0] (fun i wr => ∃ j : Nat, j ≤ k ∧ i = .int .i64 ((2 ^ j : Nat) : Int) ∧ w = wr) (fun i _ => (intOf i).toNat)
  case atStart => exact ⟨k, Nat.le_refl _, by rw [HM.out], rfl⟩
  case round =>
    obtain ⟨j, hj, rfl, rfl⟩ := hrel
    have hx := HH.out j hj
    cases j with
    | zero =>
      go_wp2
      go_ret
      exact ⟨rfl, rfl⟩
    | succ j =>
      have hs : 2 ^ (j + 1) = 2 * 2 ^ j := by rw [Nat.pow_succ]; omega
      have hy : 0 < 2 ^ j := Nat.two_pow_pos j
      rw [hs] at hx ⊢
      generalize hz : 2 ^ j = z at *
      have HZ := Lib.hid hz
      clear hs hz
      go_wp2
      go_roundw
      case rel => exact ⟨j, by omega, by rw [HZ.out], True.intro⟩
      case measure => simp [intOf]; omega
end Go.Proofs.Ytdmaipebckbmpaa
