/- What sysl.behindElements answers of every text, and sysl.origin of the text 0. -/
import Derived.Test.YtnaijahhogndjaaGreatDoorFour1
namespace Go.Proofs.YtnaijahhogndjaaGreatDoor
open Go.ChangeShapes Go.WideShapes Go.ChangeAt Go.RowKit

/-- The text that stands behind the elements, and whether it may. -/
def behindL (l : List UInt8) : List UInt8 × Bool :=
  if l = [] then ([], true) else
    (Lib.trimPrefix (Lib.trimPrefix l [32]) [239, 187, 191], Lib.hasPrefix l [32] && (Lib.hasPrefix (Lib.trimPrefix l [32]) [239, 187, 191] || decide (Lib.trimPrefix (Lib.trimPrefix l [32]) [239, 187, 191] ≠ [])))
theorem bytes_empty (l : List UInt8) : (bytes l).toList.isEmpty = decide (l = []) := by
  rw [Lib.toList_data, bytes_list]; cases l <;> simp

set_option maxHeartbeats 1000000 in
set_option maxRecDepth 100000 in
theorem behind_any (l : List UInt8) (w : World) : Calls Tryz.prog 59 #[.string (bytes l)] w fun e w' => e = .returned (.tuple #[.string (bytes (behindL l).1), .bool (behindL l).2]) ∧ w' = w := by
  have hq := bytes_empty l
  by_cases hl : l = []
  · rw [decide_eq_true hl] at hq
    have HL := Lib.hid hl
    clear hl
    go_enter Tryz.func59, Tryz.ntmps59
    go_wp2
    go_ret2
    refine ⟨?_, rfl⟩
    unfold behindL
    rw [if_pos HL.out]
    rfl
  · rw [decide_eq_false hl] at hq
    have HL := Lib.hid hl
    have h := Tryz.strings_CutPrefix (bytes l) ⟨#[32]⟩ w
    have k := Tryz.strings_CutPrefix (bytes (Lib.trimPrefix l [32])) ⟨#[239, 187, 191]⟩ w
    rw [bytes_list, show (⟨#[32]⟩ : ByteArray).data.toList = [32] from rfl] at h
    rw [bytes_list, show (⟨#[239, 187, 191]⟩ : ByteArray).data.toList = [239, 187, 191] from rfl] at k
    have hb : behindL l = (Lib.trimPrefix (Lib.trimPrefix l [32]) [239, 187, 191], Lib.hasPrefix l [32] && (Lib.hasPrefix (Lib.trimPrefix l [32]) [239, 187, 191] || decide (Lib.trimPrefix (Lib.trimPrefix l [32]) [239, 187, 191] ≠ []))) := by unfold behindL; rw [if_neg hl]
    rw [hb]
    clear hb hl
    obtain ⟨p1, hp1⟩ : ∃ p, Lib.hasPrefix l [32] = p := ⟨_, rfl⟩
    obtain ⟨m, hm⟩ : ∃ p, Lib.trimPrefix l [32] = p := ⟨_, rfl⟩
    rw [hp1, hm] at h ⊢
    rw [hm] at k
    obtain ⟨p2, hp2⟩ : ∃ p, Lib.hasPrefix m [239, 187, 191] = p := ⟨_, rfl⟩
    obtain ⟨t, ht⟩ : ∃ p, Lib.trimPrefix m [239, 187, 191] = p := ⟨_, rfl⟩
    rw [hp2, ht] at k ⊢
    have hq2 := bytes_empty t
    have H := Lib.hid h
    have K := Lib.hid k
    clear h k hp1 hm hp2 ht
    obtain ⟨q, hqq⟩ : ∃ q, decide (t = []) = q := ⟨_, rfl⟩
    have hnq : decide (t ≠ []) = !q := by rw [← hqq]; simp
    rw [hqq] at hq2
    rw [hnq]
    have hqt : t.isEmpty = q := by rw [← hqq]; cases t <;> simp
    have HQT := Lib.hid hqt
    clear hqq hnq hqt
    cases p1 <;> cases p2 <;> cases q <;>
    · go_enter Tryz.func59, Tryz.ntmps59
      go_wp2_with fail
      refine H.out.mono ?_
      rintro e w' ⟨rfl, rfl⟩
      go_wp2_with fail
      refine K.out.mono ?_
      rintro e w' ⟨rfl, rfl⟩
      go_wp2
      go_ret2
      first
        | exact ⟨rfl, rfl⟩
        | (refine ⟨?_, rfl⟩; simp [HQT.out, bytes])

theorem dec0 : Lib.decDigits 0 = [48] := Lib.decDigits_one (by decide)
theorem origin_0 (w : World) : Calls Tryz.prog 56 #[.string (bytes [48])] w fun e w' => e = .returned (.tuple #[.int .i64 0, .int .i64 0, .bool true]) ∧ Below w.heap.size w w' := by
  have HA := Lib.hid (Tryz.strconv_Atoi (bytes [48]) 0 (by decide) (by decide) w)
  have HI := Lib.hid (fun W => Tryz.strconv_Itoa_small 0 (by decide) W)
  have hq : (bytes [48]).toList = [48] := by rw [Lib.toList_data]; rfl
  rw [dec0] at HI
  go_enter Tryz.func56, Tryz.ntmps56
  go_wp2_with fail
  refine HA.out.mono ?_
  rintro e w2 ⟨rfl, t, rfl⟩
  have hb := bytesWorld_below w 5 t
  generalize Lib.bytesWorld w 5 t = w2 at hb ⊢
  go_wp2_with fail
  refine (HI.out _).mono ?_
  rintro e w3 ⟨rfl, rfl⟩
  go_wp2
  refine bodyPost_ret (v := .tuple #[.int .i64 0, .int .i64 0, .bool true]) (by simp [results, Tryz.results56, go_sem]) rfl ⟨rfl, hb⟩
end Go.Proofs.YtnaijahhogndjaaGreatDoor
