/- What the document's Two answers: where it is true, the number is a power of two. Condition: 1 or above. -/
import Derived.Test.YtdmaipebckbmpaaBase
namespace Go.Proofs.Ytdmaipebckbmpaa
open Go.ChangeShapes Go.WideShapes Go.ChangeAt Go.RowKit

set_option maxHeartbeats 1000000 in
set_option maxRecDepth 100000 in
theorem two_any (n : Nat) (h0 : 1 ≤ n) (h : n < 9223372036854775808) (w : World) :
    Calls Try.prog 6 #[.int .i64 (n : Int)] w fun e w' => (∃ b, e = .returned (.bool b) ∧ (b = true → ∃ k, n = 2 ^ k)) ∧ w' = w := by
  go_enter Try.func6, Try.ntmps6
  go_wp2
  go_loopw [0] (fun i wr => ∃ m : Nat, 1 ≤ m ∧ m ≤ n ∧ (∃ j, n = m * 2 ^ j) ∧ i = .int .i64 (m : Int) ∧ w = wr) (fun i _ => (intOf i).toNat)
  case atStart => exact ⟨n, h0, Nat.le_refl _, ⟨0, by simp⟩, rfl, rfl⟩
  case round =>
    obtain ⟨m, h1, h2, hj, rfl, rfl⟩ := hrel
    obtain ⟨z, hz | hz⟩ : ∃ z, m = 2 * z ∨ m = 2 * z + 1 := ⟨m / 2, by omega⟩
    · subst hz
      have HJ := Lib.hid hj
      clear hj
      go_wp2
      go_roundw
      case rel =>
        obtain ⟨j, hj⟩ := HJ.out
        exact ⟨z, by omega, by omega, ⟨j + 1, by rw [hj, Nat.pow_succ, Nat.mul_comm 2 z, Nat.mul_assoc, Nat.mul_comm 2]⟩, by go_num, True.intro⟩
      case measure => simp [intOf]; omega
    · subst hz
      have HJ := Lib.hid hj
      clear hj
      go_wp2
      go_ret
      refine ⟨⟨_, rfl, fun e => ?_⟩, rfl⟩
      have hz0 : (2 * (z : Int) + 1) = 1 := by simpa using e
      obtain rfl : z = 0 := by omega
      obtain ⟨j, hj⟩ := HJ.out
      exact ⟨j, by simpa using hj⟩
end Go.Proofs.Ytdmaipebckbmpaa
