/- The texts RefPlain, RefSmall, one behind the other. -/
import Derived.Test.YtmmghppjhmdikaaGreatDoorAF3
/- What the document's own Plain answers: is a text a word? -/
namespace Go.Proofs.YtmmghppjhmdikaaGreatDoor
open Go.ChangeShapes Go.WideShapes Go.ChangeAt Go.RowKit

set_option maxHeartbeats 4000000 in
set_option maxRecDepth 100000 in
theorem refPlain_any (s : ByteArray) (most : Int) (w : World) (hs : s.size ≤ 9223372036854775807) :
    Calls Tryz.prog 40 #[.string s, .int .i64 most] w fun e w' => e = .returned (.bool (plainB s.data.toList most)) ∧ w' = w := by
  by_cases h0 : 0 < s.size ∧ (s.size : Int) ≤ most
  · have HP := Lib.hid (show plainB s.data.toList most = s.data.toList.all wordByte by unfold plainB; rw [list_size, decide_eq_true h0, Bool.true_and])
    obtain ⟨h1, h2⟩ := h0
    have hne : 1 ≤ (s.size : Int) := by omega
    go_enter Tryz.func40, Tryz.ntmps40
    go_wp2
    go_loop [5] (fun i => ∃ k : Nat, k ≤ s.size ∧ i = .int .i64 k ∧ (s.data.toList.take k).all wordByte = true) (fun i => s.size - (intOf i).toNat)
    case atStart => exact ⟨0, by omega, rfl, rfl⟩
    case round =>
      obtain ⟨k, hk, rfl, hall⟩ := hrel
      have HA := Lib.hid hall
      clear hall
      by_cases hlt : k < s.size
      · by_cases hc : 33 ≤ ((s[k]).toNat : Int) ∧ ((s[k]).toNat : Int) ≤ 126
        · have HN := Lib.hid (show (s.data.toList.take (k + 1)).all wordByte = true by
            rw [take_at s k hlt, List.all_append, HA.out]
            simp only [List.all_cons, List.all_nil, Bool.and_true, Bool.true_and]
            exact decide_eq_true hc)
          obtain ⟨c1, c2⟩ := hc
          go_wp2
          go_round
          case rel => exact ⟨k + 1, by omega, by go_num, HN.out⟩
          case measure => simp [intOf]; omega
        · have HE := Lib.hid (show plainB s.data.toList most = false by
            rw [HP.out, ← Bool.not_eq_true, List.all_eq_true]
            intro hx
            have := hx s[k] (by rw [← List.take_append_drop k s.data.toList, drop_at s k hlt]; simp)
            exact hc (of_decide_eq_true this))
          rcases (show ((s[k]).toNat : Int) < 33 ∨ (33 ≤ ((s[k]).toNat : Int) ∧ 126 < ((s[k]).toNat : Int)) by omega) with h | ⟨h, h'⟩
          all_goals
            clear hc
            go_wp2
            go_ret
            exact ⟨by rw [HE.out]; rfl, rfl⟩
      · obtain rfl : k = s.size := by omega
        have HE := Lib.hid (show plainB s.data.toList most = true by rw [HP.out, ← HA.out, take_all])
        clear hlt
        go_wp2
        go_ret
        exact ⟨by rw [HE.out]; rfl, rfl⟩
  · have HE := Lib.hid (show plainB s.data.toList most = false by unfold plainB; rw [list_size, decide_eq_false h0, Bool.false_and])
    by_cases h1 : s.size = 0
    · have hne : (s.size : Int) < 1 := by omega
      clear h0 h1
      go_enter Tryz.func40, Tryz.ntmps40
      go_wp2
      go_ret
      exact ⟨by rw [HE.out]; rfl, rfl⟩
    · have hne : 1 ≤ (s.size : Int) := by omega
      have h2 : most < (s.size : Int) := by omega
      clear h0 h1
      go_enter Tryz.func40, Tryz.ntmps40
      go_wp2
      go_ret
      exact ⟨by rw [HE.out]; rfl, rfl⟩
end Go.Proofs.YtmmghppjhmdikaaGreatDoor
/- What the document's own small functions answer: a word or none, a word of a head, a name. -/
namespace Go.Proofs.YtmmghppjhmdikaaGreatDoor
open Go.ChangeShapes Go.WideShapes Go.ChangeAt Go.RowKit

set_option maxHeartbeats 1000000 in
set_option maxRecDepth 100000 in
theorem refHead_any (s : ByteArray) (most : Int) (w : World) (hs : s.size ≤ 9223372036854775807) :
    Calls Tryz.prog 25 #[.string s, .int .i64 most] w fun e w' => e = .returned (.bool (wordB s.data.toList most)) ∧ w' = w := by
  have HP := Lib.hid (refPlain_any s most w hs)
  by_cases h : s.size = 0
  · have hne := empty_of h
    have e : wordB s.data.toList most = true := by
      unfold wordB
      rw [decide_eq_true (List.eq_nil_of_length_eq_zero (by rw [list_size]; exact h))]; rfl
    rw [e]
    generalize plainB s.data.toList most = b at HP
    cases b <;>
    · go_enter Tryz.func25, Tryz.ntmps25
      go_wp2_with fail
      refine HP.out.mono ?_
      rintro e w' ⟨rfl, rfl⟩
      go_wp2
      go_ret
      exact ⟨rfl, rfl⟩
  · have hne := full_of (s := s) (by omega)
    have hn : ¬ s.data.toList = [] := fun hx => by have := list_size s; rw [hx] at this; exact h this.symm
    by_cases hm : s.data.toList = [45]
    · have hq : (s.toList == [45]) = true := by rw [Lib.toList_data, beq_iff_eq]; exact hm
      have e : wordB s.data.toList most = false := by unfold wordB; rw [decide_eq_false hn, hm]; rfl
      rw [e]
      clear hn hm e
      generalize plainB s.data.toList most = b at HP
      cases b <;>
      · go_enter Tryz.func25, Tryz.ntmps25
        go_wp2_with fail
        refine HP.out.mono ?_
        rintro e w' ⟨rfl, rfl⟩
        go_wp2
        go_ret
        exact ⟨rfl, rfl⟩
    · have hq : (s.toList == [45]) = false := by rw [Lib.toList_data]; exact beq_eq_false_iff_ne.2 hm
      have e : wordB s.data.toList most = plainB s.data.toList most := by unfold wordB; rw [decide_eq_false hn, decide_eq_true hm]; simp
      rw [e]
      clear hn hm e
      generalize plainB s.data.toList most = b at HP ⊢
      cases b <;>
      · go_enter Tryz.func25, Tryz.ntmps25
        go_wp2_with fail
        refine HP.out.mono ?_
        rintro e w' ⟨rfl, rfl⟩
        go_wp2
        go_ret
        exact ⟨rfl, rfl⟩
end Go.Proofs.YtmmghppjhmdikaaGreatDoor
