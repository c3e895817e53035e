/- What package cal's small readers answer: figuresOf, number, power, and the closure of Parse that moves on. -/
import Derived.Test.YtnaijahhogndjaaGreatDoorCalBase
import Derived.Test.YtnaijahhogndjaaGreatDoorCalFigs
import Derived.Test.YtnaijahhogndjaaGreatDoorShelf2
import Derived.Test.YtnaijahhogndjaaGreatDoorShelf
namespace Go.Proofs.YtnaijahhogndjaaGreatDoor.Cal
open Go.ChangeShapes Go.WideShapes Go.ChangeAt Go.RowKit

theorem drop_at (s : ByteArray) (k : Nat) (h : k < s.size) : s.data.toList.drop k = s[k] :: s.data.toList.drop (k + 1) := by
  rw [List.drop_eq_getElem_cons (by rw [Array.length_toList]; exact h)]
  rfl
theorem take_at (s : ByteArray) (k : Nat) (h : k < s.size) : s.data.toList.take (k + 1) = s.data.toList.take k ++ [s[k]] := by
  rw [List.take_succ_eq_append_getElem (by simpa using h)]; rfl
set_option maxHeartbeats 800000 in
theorem figuresOf_any (s : ByteArray) (n : Nat) (w : World) (hs : s.size ≤ 9223372036854775807) (hn : n ≤ 6) :
    Calls Tryz.prog 111 #[.string s, .int .i64 n] w fun e w' => e = .returned (.int .i64 (figs s.data.toList n)) ∧ w' = w := by
  go_enter Tryz.func111, Tryz.ntmps111
  go_wp2
  go_loop [5] (fun t => ∃ k : Nat, k ≤ n ∧ k ≤ s.size ∧ t = .int .i64 k ∧ figs s.data.toList n = k + figs (s.data.toList.drop k) (n - k)) (fun t => n - (intOf t).toNat)
  case atStart => exact ⟨0, by omega, by omega, rfl, by simp⟩
  case round =>
    obtain ⟨k, k1, k2, rfl, hk⟩ := hrel
    by_cases hlt : k < n ∧ k < s.size
    · obtain ⟨l1, l2⟩ := hlt
      have hd := drop_at s k l2
      obtain ⟨j, hj⟩ : ∃ j, n - k = j + 1 := ⟨n - k - 1, by omega⟩
      have hj2 : n - (k + 1) = j := by omega
      by_cases hc : 48 ≤ ((s[k]).toNat : Int) ∧ ((s[k]).toNat : Int) ≤ 57
      · obtain ⟨c1, c2⟩ := hc
        have hnext : figs s.data.toList n = (k + 1) + figs (s.data.toList.drop (k + 1)) (n - (k + 1)) := by
          rw [hk, hd, hj, hj2, figs, if_pos (show isDig s[k] = true from decide_eq_true ⟨c1, c2⟩)]; omega
        have HK := Lib.hid hnext
        have hm : (k : Int) < min (n : Int) (s.size : Int) := by omega
        clear hk hd hj hj2 hnext
        go_wp2
        go_round
        case rel => exact ⟨k + 1, by omega, by omega, by go_num, HK.out⟩
        case measure => simp [intOf]; omega
      · have hend : figs s.data.toList n = k := by
          rw [hk, hd, hj, figs, if_neg (by simpa [isDig] using hc)]; omega
        have HE := Lib.hid hend
        have hm : (k : Int) < min (n : Int) (s.size : Int) := by omega
        clear hk hd hj hj2 hend
        rcases (show ((s[k]).toNat : Int) < 48 ∨ (48 ≤ ((s[k]).toNat : Int) ∧ 57 < ((s[k]).toNat : Int)) by omega) with h | ⟨h, h'⟩
        all_goals
          clear hc
          go_wp2
          go_ret
          exact ⟨by rw [HE.out]; rfl, rfl⟩
    · have hend : figs s.data.toList n = k := by
        rw [hk]
        by_cases h : k < n
        · have : s.data.toList.drop k = [] := List.drop_of_length_le (by rw [Array.length_toList]; have : ¬ k < s.size := fun h2 => hlt ⟨h, h2⟩; change s.size ≤ k; omega)
          rw [this]
          have := (figs_le [] (n - k)).2
          simp at this ⊢; omega
        · rw [show n - k = 0 by omega]; unfold figs; omega
      have HE := Lib.hid hend
      have hm : ¬ (k : Int) < min (n : Int) (s.size : Int) := by omega
      clear hk hend hlt
      go_wp2
      go_ret
      exact ⟨by rw [HE.out]; rfl, rfl⟩

theorem ret_int {k : IntKind} {a b : Int} (h : a = b) : Ending.returned (.int k a) = .returned (.int k b) := by rw [h]
set_option maxHeartbeats 800000 in
theorem number_any (s : ByteArray) (w : World) (hs : s.size ≤ 6) (hd : ∀ c ∈ s.data.toList, isDig c = true) :
    Calls Tryz.prog 112 #[.string s] w fun e w' => e = .returned (.int .i64 (numOf s.data.toList)) ∧ w' = w := by
  have HD := Lib.hid hd
  clear hd
  go_enter Tryz.func112, Tryz.ntmps112
  go_wp2
  go_loop [3, 7] (fun v i => ∃ k : Nat, k ≤ s.size ∧ i = .int .i64 k ∧ v = .int .i64 (numOf (s.data.toList.take k))) (fun _ i => s.size - (intOf i).toNat)
  case atStart => exact ⟨0, by omega, rfl, rfl⟩
  case round =>
    obtain ⟨k, hk, rfl, rfl⟩ := hrel
    by_cases hlt : k < s.size
    · have hb := numOf_bd (s.data.toList.take k) (fun c hc => HD.out c (List.mem_of_mem_take hc))
      have hl : (s.data.toList.take k).length = k := by rw [List.length_take, Array.length_toList]; exact Nat.min_eq_left (by change k ≤ s.size; omega)
      rw [hl] at hb
      have hp : (10 : Int) ^ k ≤ 1000000 := by
        have : 10 ^ k ≤ 10 ^ 6 := Nat.pow_le_pow_right (by decide) (by omega)
        have e : (10 : Int) ^ k = ((10 ^ k : Nat) : Int) := by simp
        rw [e]
        omega
      have hc := of_decide_eq_true (HD.out s[k] (by rw [← List.take_append_drop k s.data.toList, drop_at s k hlt]; simp))
      have HS := Lib.hid (show numOf (s.data.toList.take (k + 1)) = 10 * numOf (s.data.toList.take k) + (((s[k]).toNat : Int) - 48) by rw [take_at s k hlt, numOf_snoc])
      obtain ⟨b1, b2⟩ := hb
      have b3 : numOf (s.data.toList.take k) ≤ 1000000 := by omega
      obtain ⟨c1, c2⟩ := hc
      clear b2 hp hl
      generalize numOf (s.data.toList.take k) = V at b1 b3 HS ⊢
      go_wp2
      go_round
      case rel => exact ⟨k + 1, by omega, by go_num, by rw [HS.out]⟩
      case measure => simp [intOf]; omega
    · obtain rfl : k = s.size := by omega
      have e : s.data.toList.take s.size = s.data.toList := List.take_of_length_le (by rw [Array.length_toList]; exact Nat.le_refl _)
      rw [e]
      clear e
      go_wp2
      go_ret
      exact ⟨rfl, rfl⟩
theorem power_any (n : Nat) (w : World) (hn : n ≤ 9) :
    Calls Tryz.prog 113 #[.int .i64 n] w fun e w' => e = .returned (.int .i64 ((10 ^ n : Nat) : Int)) ∧ w' = w := by
  go_enter Tryz.func113, Tryz.ntmps113
  go_wp2
  go_loop [3, 5] (fun v i => ∃ k : Nat, k ≤ n ∧ i = .int .i64 k ∧ v = .int .i64 ((10 ^ k : Nat) : Int)) (fun _ i => n - (intOf i).toNat)
  case atStart => exact ⟨0, by omega, rfl, rfl⟩
  case round =>
    obtain ⟨k, hk, rfl, rfl⟩ := hrel
    by_cases hlt : k < n
    · have hp : 10 ^ k ≤ 10 ^ 9 := Nat.pow_le_pow_right (by decide) (by omega)
      have HS := Lib.hid (Nat.pow_succ 10 k)
      generalize 10 ^ k = V at hp HS ⊢
      have hv : (V : Int) ≤ 1000000000 := by omega
      clear hp
      go_wp2
      go_round
      case rel => exact ⟨k + 1, by omega, by go_num, by rw [HS.out]; go_num⟩
      case measure => simp [intOf]; omega
    · obtain rfl : k = n := by omega
      go_wp2
      go_ret
      exact ⟨rfl, rfl⟩
end Go.Proofs.YtnaijahhogndjaaGreatDoor.Cal
