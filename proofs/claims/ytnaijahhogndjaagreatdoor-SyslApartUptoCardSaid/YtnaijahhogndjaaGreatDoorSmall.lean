/- What package sysl's small functions answer: within, Plain, hasBackslash, orNone, wordRight, isName. -/
import Derived.Test.YtnaijahhogndjaaGreatDoorShelf
import Derived.Test.YtnaijahhogndjaaGreatDoorWords
import Derived.Test.YtnaijahhogndjaaGreatDoorRows
import Derived.WalkKit
import Derived.ProofKit
import Derived.Deep.QuietTactic
import Derived.BigQuiet
import Derived.Deep.RegionWith
import Derived.Lib.LaidTab
namespace Go.Proofs.YtnaijahhogndjaaGreatDoor
open Go.ChangeShapes Go.WideShapes Go.ChangeAt Go.RowKit

theorem empty_of {s : ByteArray} (h : s.size = 0) : s.toList.isEmpty = true := by
  rw [Lib.toList_data]
  have : s.data.toList = [] := List.eq_nil_of_length_eq_zero (by rw [list_size]; exact h)
  rw [this]; rfl
theorem full_of {s : ByteArray} (h : 0 < s.size) : s.toList.isEmpty = false := by
  rw [Lib.toList_data]
  cases hx : s.data.toList with
  | nil => have := list_size s; rw [hx] at this; simp at this; omega
  | cons _ _ => rfl
theorem within_any (n last : Int) (w : World) : Calls Tryz.prog 40 #[.int .i64 n, .int .i64 last] w fun e w' => e = .returned (.bool (decide (0 ≤ n ∧ n ≤ last))) ∧ w' = w := by
  by_cases h : 0 ≤ n ∧ n ≤ last
  · have e : decide (0 ≤ n ∧ n ≤ last) = true := decide_eq_true h
    rw [e]
    obtain ⟨h1, h2⟩ := h
    clear e
    go_enter Tryz.func40, Tryz.ntmps40
    go_wp2
    go_ret
    exact ⟨rfl, rfl⟩
  · have e : decide (0 ≤ n ∧ n ≤ last) = false := decide_eq_false h
    rw [e]
    clear e
    rcases (show n < 0 ∨ (0 ≤ n ∧ last < n) by omega) with h1 | ⟨h1, h2⟩
    · clear h
      go_enter Tryz.func40, Tryz.ntmps40
      go_wp2
      go_ret
      exact ⟨rfl, rfl⟩
    · clear h
      go_enter Tryz.func40, Tryz.ntmps40
      go_wp2
      go_ret
      exact ⟨by simp [go_sem]; omega, rfl⟩
set_option maxHeartbeats 800000 in
theorem plain_any (s : ByteArray) (most : Int) (w : World) (hs : s.size ≤ 9223372036854775807) :
    Calls Tryz.prog 19 #[.string s, .int .i64 most] w fun e w' => e = .returned (.bool (plainB s.data.toList most)) ∧ w' = w := by
  by_cases h0 : 0 < s.size ∧ (s.size : Int) ≤ most
  · have HP := Lib.hid (show plainB s.data.toList most = s.data.toList.all wordByte by unfold plainB; rw [list_size, decide_eq_true h0, Bool.true_and])
    obtain ⟨h1, h2⟩ := h0
    have hne := full_of h1
    go_enter Tryz.func19, Tryz.ntmps19
    go_wp2
    go_loop [16] (fun i => ∃ k : Nat, k ≤ s.size ∧ i = .int .i64 k ∧ (s.data.toList.take k).all wordByte = true) (fun i => s.size - (intOf i).toNat)
    case atStart => exact ⟨0, by omega, rfl, rfl⟩
    case round =>
      obtain ⟨k, hk, rfl, hall⟩ := hrel
      have HA := Lib.hid hall
      clear hall
      by_cases hlt : k < s.size
      · by_cases hc : 33 ≤ ((s[k]).toNat : Int) ∧ ((s[k]).toNat : Int) ≤ 126
        · have HN := Lib.hid (show (s.data.toList.take (k + 1)).all wordByte = true by
            rw [take_at s k hlt, List.all_append, HA.out]
            simp only [List.all_cons, List.all_nil, Bool.and_true, Bool.true_and]
            exact decide_eq_true hc)
          obtain ⟨c1, c2⟩ := hc
          go_wp2
          go_round
          case rel => exact ⟨k + 1, by omega, by go_num, HN.out⟩
          case measure => simp [intOf]; omega
        · have HE := Lib.hid (show plainB s.data.toList most = false by
            rw [HP.out, ← Bool.not_eq_true, List.all_eq_true]
            intro hx
            have := hx s[k] (by rw [← List.take_append_drop k s.data.toList, drop_at s k hlt]; simp)
            exact hc (of_decide_eq_true this))
          rcases (show ((s[k]).toNat : Int) < 33 ∨ (33 ≤ ((s[k]).toNat : Int) ∧ 126 < ((s[k]).toNat : Int)) by omega) with h | ⟨h, h'⟩
          all_goals
            clear hc
            go_wp2
            go_ret
            exact ⟨by rw [HE.out]; rfl, rfl⟩
      · obtain rfl : k = s.size := by omega
        have HE := Lib.hid (show plainB s.data.toList most = true by rw [HP.out, ← HA.out, take_all])
        clear hlt
        go_wp2
        go_ret
        exact ⟨by rw [HE.out]; rfl, rfl⟩
  · have HE := Lib.hid (show plainB s.data.toList most = false by unfold plainB; rw [list_size, decide_eq_false h0, Bool.false_and])
    by_cases h1 : s.size = 0
    · have hne := empty_of h1
      clear h0 h1
      go_enter Tryz.func19, Tryz.ntmps19
      go_wp2
      go_ret
      exact ⟨by rw [HE.out]; rfl, rfl⟩
    · have hne := full_of (s := s) (by omega)
      have h2 : most < (s.size : Int) := by omega
      clear h0 h1
      go_enter Tryz.func19, Tryz.ntmps19
      go_wp2
      go_ret
      exact ⟨by rw [HE.out]; rfl, rfl⟩
theorem index_marked (c : UInt8) : (0 ≤ Lib.indexByte [34, 92, 93] c) = (marked c = true) := by
  unfold marked
  simp only [Lib.indexByte]
  by_cases h1 : c = 34
  · subst h1; decide
  · by_cases h2 : c = 92
    · subst h2; decide
    · by_cases h3 : c = 93
      · subst h3; decide
      · have e1 : ((34 : UInt8) == c) = false := beq_eq_false_iff_ne.2 (fun h => h1 h.symm)
        have e2 : ((92 : UInt8) == c) = false := beq_eq_false_iff_ne.2 (fun h => h2 h.symm)
        have e3 : ((93 : UInt8) == c) = false := beq_eq_false_iff_ne.2 (fun h => h3 h.symm)
        have e4 : (c == 34) = false := beq_eq_false_iff_ne.2 h1
        have e5 : (c == 92) = false := beq_eq_false_iff_ne.2 h2
        have e6 : (c == 93) = false := beq_eq_false_iff_ne.2 h3
        simp [e1, e2, e3, e4, e5, e6]
theorem marked_any (c : UInt8) (w : World) : Calls Tryz.prog 50 #[.int .u8 ((c.toNat : Nat) : Int)] w fun e w' => e = .returned (.bool (marked c)) ∧ w' = w := by
  have HM := Lib.hid (index_marked c)
  have hc : (((c.toNat : Nat) : Int)).toNat.toUInt8 = c := by simp
  go_enter Tryz.func50, Tryz.ntmps50
  go_wp2_with fail
  refine (Tryz.strings_IndexByte _ _ _).mono ?_
  rintro e w' ⟨rfl, rfl⟩
  rw [hc]
  have hl : (⟨#[34, 92, 93]⟩ : ByteArray).data.toList = [34, 92, 93] := rfl
  rw [hl]
  generalize Lib.indexByte [34, 92, 93] c = r at HM ⊢
  clear hc hl
  by_cases hr : 0 ≤ r
  · have hm := Lib.hid (show marked c = true by rw [← HM.out]; exact hr)
    go_wp2
    go_ret
    exact ⟨by rw [hm.out]; rfl, rfl⟩
  · have hm := Lib.hid (show marked c = false by rw [← Bool.not_eq_true, ← HM.out]; exact hr)
    go_wp2
    go_ret
    exact ⟨by rw [hm.out]; simp [go_sem]; omega, rfl⟩
theorem orNone_any (s : ByteArray) (w : World) : Calls Tryz.prog 29 #[.string s] w fun e w' => e = .returned (.string (if s.size = 0 then bytes [45] else s)) ∧ w' = w := by
  by_cases h : s.size = 0
  · have hne := empty_of h
    rw [if_pos h]
    go_enter Tryz.func29, Tryz.ntmps29
    go_wp2
    go_ret
    exact ⟨rfl, rfl⟩
  · have hne := full_of (s := s) (by omega)
    rw [if_neg h]
    go_enter Tryz.func29, Tryz.ntmps29
    go_wp2
    go_ret
    exact ⟨rfl, rfl⟩
theorem eq_text (s t : ByteArray) : (s.toList == t.toList) = decide (s = t) := by
  rw [Lib.toList_data, Lib.toList_data, Bool.eq_iff_iff, beq_iff_eq, decide_eq_true_iff]
  constructor
  · intro h; rw [← bytes_self s, ← bytes_self t, h]
  · rintro rfl; rfl
theorem minus_list : (⟨#[45]⟩ : ByteArray).toList = [45] := by rw [Lib.toList_data]
theorem word_any (s : ByteArray) (most : Int) (w : World) (hs : s.size ≤ 9223372036854775807) :
    Calls Tryz.prog 72 #[.string s, .int .i64 most] w fun e w' => e = .returned (.bool (wordB s.data.toList most)) ∧ w' = w := by
  by_cases h : s.size = 0
  · have hne := empty_of h
    have e : wordB s.data.toList most = true := by
      unfold wordB
      rw [decide_eq_true (List.eq_nil_of_length_eq_zero (by rw [list_size]; exact h))]; rfl
    rw [e]
    go_enter Tryz.func72, Tryz.ntmps72
    go_wp2
    go_ret
    exact ⟨rfl, rfl⟩
  · have hne := full_of (s := s) (by omega)
    have hn : ¬ s.data.toList = [] := fun hx => by have := list_size s; rw [hx] at this; exact h this.symm
    by_cases hm : s.data.toList = [45]
    · have hq : (s.toList == [45]) = true := by rw [Lib.toList_data, beq_iff_eq]; exact hm
      have e : wordB s.data.toList most = false := by unfold wordB; rw [decide_eq_false hn, hm]; rfl
      rw [e]
      clear hn hm e
      go_enter Tryz.func72, Tryz.ntmps72
      go_wp2
      go_ret
      exact ⟨rfl, rfl⟩
    · have hq : (s.toList == [45]) = false := by rw [Lib.toList_data]; exact beq_eq_false_iff_ne.2 hm
      have e : wordB s.data.toList most = plainB s.data.toList most := by unfold wordB; rw [decide_eq_false hn, decide_eq_true hm]; simp
      rw [e]
      clear hn hm e
      have hp := plain_any s most w hs
      generalize plainB s.data.toList most = b at hp ⊢
      have HP := Lib.hid hp
      clear hp
      go_enter Tryz.func72, Tryz.ntmps72
      go_wp2_with (go_at_call 19; refine HP.out.mono ?_; rintro e w' ⟨rfl, rfl⟩)
      go_ret
      exact ⟨rfl, rfl⟩
theorem name_any (s : ByteArray) (w : World) (hs : s.size ≤ 9223372036854775807) :
    Calls Tryz.prog 73 #[.string s] w fun e w' => e = .returned (.bool (nameB s.data.toList)) ∧ Below w.heap.size w w' := by
  by_cases hp : plainB s.data.toList 32 = true
  · have hl := plain_len hp
    rw [list_size] at hl
    have HC := Lib.hid (Tryz.strings_ContainsAny_laid s ⟨#[61, 93, 34]⟩ w (by omega) (by decide) (fun j b hb => plain_ascii hp j b hb) (by
      intro j b hb
      have hb' : [61, 93, 34][j]? = some b := hb
      have := List.mem_of_getElem? hb'
      simp at this
      rcases this with rfl | rfl | rfl <;> decide))
    have e : nameB s.data.toList = !(Lib.containsAny s.data.toList [61, 93, 34]) := by unfold nameB; rw [hp]; rfl
    rw [e]
    have HP := Lib.hid hp
    clear hp hl e
    have hlist : (⟨#[61, 93, 34]⟩ : ByteArray).data.toList = [61, 93, 34] := rfl
    rw [hlist] at HC
    generalize Lib.containsAny s.data.toList [61, 93, 34] = b at HC ⊢
    go_enter Tryz.func73, Tryz.ntmps73
    go_wp2_with fail
    refine (plain_any s 32 w hs).mono ?_
    rintro e w' ⟨rfl, rfl⟩
    rw [HP.out]
    go_wp2_with fail
    refine HC.out.mono ?_
    rintro e w' ⟨rfl, hb⟩
    go_wp2
    go_ret
    exact ⟨rfl, hb⟩
  · have hp' : plainB s.data.toList 32 = false := by simpa using hp
    have e : nameB s.data.toList = false := by unfold nameB; rw [hp']; rfl
    rw [e]
    have HP := Lib.hid hp'
    clear hp hp' e
    go_enter Tryz.func73, Tryz.ntmps73
    go_wp2_with fail
    refine (plain_any s 32 w hs).mono ?_
    rintro e w' ⟨rfl, rfl⟩
    rw [HP.out]
    go_wp2
    go_ret
    exact ⟨rfl, Below.refl _ _⟩
end Go.Proofs.YtnaijahhogndjaaGreatDoor
