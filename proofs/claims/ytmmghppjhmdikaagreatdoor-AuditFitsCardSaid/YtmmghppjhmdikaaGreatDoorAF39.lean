/- What the document's own name answers: is a text a name? -/
import Derived.Test.YtmmghppjhmdikaaGreatDoorAF5
import Derived.Test.YtmmghppjhmdikaaGreatDoorAF4
namespace Go.Proofs.YtmmghppjhmdikaaGreatDoor
open Go.ChangeShapes Go.WideShapes Go.ChangeAt Go.RowKit

set_option maxHeartbeats 4000000 in
set_option maxRecDepth 100000 in
theorem refName_any (s : ByteArray) (w : World) (hs : s.size ≤ 9223372036854775807) :
    Calls Tryz.prog 27 #[.string s] w fun e w' => e = .returned (.bool (nameB s.data.toList)) ∧ w' = w := by
  have HP := Lib.hid (refPlain_any s 32 w hs)
  have hln : s.data.toList.length = s.size := list_size s
  have HLN := Lib.hid hln
  clear hln
  by_cases hp : plainB s.data.toList 32 = true
  · have e : nameB s.data.toList = !(Lib.containsAny s.data.toList [61, 93, 34]) := by unfold nameB; rw [hp]; rfl
    rw [e]
    rw [hp] at HP
    clear e hp
    go_enter Tryz.func27, Tryz.ntmps27
    go_wp2_with fail
    refine HP.out.mono ?_
    rintro e w' ⟨rfl, rfl⟩
    go_wp2
    go_loop [4] (fun i => ∃ k : Nat, k ≤ s.size ∧ i = .int .i64 k ∧ Hid (Lib.NoAny s.data.toList [61, 93, 34] k)) (fun i => s.size - (intOf i).toNat)
    case atStart => exact ⟨0, by omega, rfl, Lib.hid (Lib.NoAny.zero _ _)⟩
    case round =>
      obtain ⟨k, hk, rfl, HN⟩ := hrel
      by_cases hlt : k < s.size
      · obtain ⟨c, hc⟩ : ∃ c, s.data.toList[k]? = some c := ⟨s.data.toList[k]'(by rw [HLN.out]; exact hlt), List.getElem?_eq_getElem _⟩
        have hat : ((s[k]'hlt).toNat : Int) = ((c.toNat : Nat) : Int) := by
          obtain ⟨hk2, hx⟩ := List.getElem?_eq_some_iff.1 hc
          rw [← hx]
          simp only [Array.getElem_toList]
          rfl
        have HC := Lib.hid hc
        clear hc
        by_cases hin : [61, 93, 34].contains c = true
        · have HH := Lib.hid (show Lib.containsAny s.data.toList [61, 93, 34] = true by
            unfold Lib.containsAny
            rw [Lib.indexAny_hit HN.out HC.out hin]
            exact decide_eq_true (by omega))
          have h3 : c = 61 ∨ c = 93 ∨ c = 34 := by simpa using hin
          clear hin
          rcases h3 with rfl | rfl | rfl
          · rw [show (((61 : UInt8).toNat : Nat) : Int) = 61 from rfl] at hat
            go_wp2
            go_ret
            exact ⟨by rw [HH.out]; rfl, rfl⟩
          · rw [show (((93 : UInt8).toNat : Nat) : Int) = 93 from rfl] at hat
            go_wp2
            go_ret
            exact ⟨by rw [HH.out]; rfl, rfl⟩
          · rw [show (((34 : UInt8).toNat : Nat) : Int) = 34 from rfl] at hat
            go_wp2
            go_ret
            exact ⟨by rw [HH.out]; rfl, rfl⟩
        · have h3 : ¬ (c = 61 ∨ c = 93 ∨ c = 34) := fun h => hin (by simpa using h)
          have hf : [61, 93, 34].contains c = false := by simpa using hin
          have HF := Lib.hid hf
          have q61 : (((c.toNat : Nat) : Int) == 61) = false := beq_eq_false_iff_ne.2 fun h => h3 (.inl (u8_eq (n := 61) (by omega) (by omega)))
          have q93 : (((c.toNat : Nat) : Int) == 93) = false := beq_eq_false_iff_ne.2 fun h => h3 (.inr (.inl (u8_eq (n := 93) (by omega) (by omega))))
          have q34 : (((c.toNat : Nat) : Int) == 34) = false := beq_eq_false_iff_ne.2 fun h => h3 (.inr (.inr (u8_eq (n := 34) (by omega) (by omega))))
          clear h3 hin hf
          go_wp2
          go_round
          case rel => exact ⟨k + 1, by omega, by go_num, Lib.hid (HN.out.succ HC.out HF.out)⟩
          case measure => simp [intOf]; omega
      · obtain rfl : k = s.size := by omega
        have HH := Lib.hid (show Lib.containsAny s.data.toList [61, 93, 34] = false by
          unfold Lib.containsAny
          rw [Lib.indexAny_none (by rw [HLN.out]; exact HN.out)]
          rfl)
        clear hlt
        go_wp2
        go_ret
        exact ⟨by rw [HH.out]; rfl, rfl⟩
  · have hf : plainB s.data.toList 32 = false := by simpa using hp
    have e : nameB s.data.toList = false := by unfold nameB; rw [hf]; rfl
    rw [hf] at HP
    rw [e]
    clear hp hf e
    go_enter Tryz.func27, Tryz.ntmps27
    go_wp2_with fail
    refine HP.out.mono ?_
    rintro e w' ⟨rfl, rfl⟩
    go_wp2
    go_ret
    exact ⟨rfl, rfl⟩
end Go.Proofs.YtmmghppjhmdikaaGreatDoor
