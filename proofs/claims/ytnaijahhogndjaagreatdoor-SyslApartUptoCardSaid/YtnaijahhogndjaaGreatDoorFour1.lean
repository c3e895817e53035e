/- What four of sysl.Parse's callees answer at the document's example. -/
import Derived.Test.YtnaijahhogndjaaGreatDoorUntil
namespace Go.Proofs.YtnaijahhogndjaaGreatDoor
open Go.ChangeShapes Go.WideShapes Go.ChangeAt Go.RowKit

theorem moment_none (w : World) : Calls Tryz.prog 57 #[.string (bytes [])] w fun e w' => e = .returned (.tuple #[.bool false, .int .i64 0, .bool true]) ∧ w' = w := by
  have hq : (bytes []).toList.isEmpty = true := by rw [Lib.toList_data]; rfl
  go_enter Tryz.func57, Tryz.ntmps57
  go_wp2
  refine bodyPost_ret (v := .tuple #[.bool false, .int .i64 0, .bool true]) (by simp [results, Tryz.results57, go_sem]) rfl ⟨rfl, rfl⟩
theorem elements_none (r : List UInt8) (w : World) : Calls Tryz.prog 58 #[.string (bytes (45 :: r))] w fun e w' => e = .returned (.tuple #[.slice none 0 0, .string (bytes r), .bool true]) ∧ w' = w := by
  have h := Tryz.strings_CutPrefix (bytes (45 :: r)) ⟨#[45]⟩ w
  have h1 : Lib.hasPrefix (45 :: r) [45] = true := by simp [Lib.hasPrefix, List.isPrefixOf]
  have h2 : Lib.trimPrefix (45 :: r) [45] = r := by unfold Lib.trimPrefix; rw [h1]; simp
  rw [bytes_list, show (⟨#[45]⟩ : ByteArray).data.toList = [45] from rfl, h1, h2] at h
  have H := Lib.hid h
  clear h h1 h2
  go_enter Tryz.func58, Tryz.ntmps58
  go_wp2_with fail
  refine H.out.mono ?_
  rintro e w' ⟨rfl, rfl⟩
  go_wp2
  refine bodyPost_ret (v := .tuple #[.slice none 0 0, .string (bytes r), .bool true]) (by simp [results, Tryz.results58, go_sem, bytes]) rfl ⟨rfl, rfl⟩
theorem behind_hi (w : World) : Calls Tryz.prog 59 #[.string (bytes [32, 104, 105])] w fun e w' => e = .returned (.tuple #[.string (bytes [104, 105]), .bool true]) ∧ w' = w := by
  have h := Tryz.strings_CutPrefix (bytes [32, 104, 105]) ⟨#[32]⟩ w
  rw [bytes_list, show (⟨#[32]⟩ : ByteArray).data.toList = [32] from rfl, show Lib.hasPrefix [32, 104, 105] [32] = true from rfl, show Lib.trimPrefix [32, 104, 105] [32] = [104, 105] from rfl] at h
  have k := Tryz.strings_CutPrefix (bytes [104, 105]) ⟨#[239, 187, 191]⟩ w
  rw [bytes_list, show (⟨#[239, 187, 191]⟩ : ByteArray).data.toList = [239, 187, 191] from rfl, show Lib.hasPrefix [104, 105] [239, 187, 191] = false from rfl, show Lib.trimPrefix [104, 105] [239, 187, 191] = [104, 105] from rfl] at k
  have H := Lib.hid h
  have K := Lib.hid k
  have hq : (bytes [32, 104, 105]).toList.isEmpty = false := by rw [Lib.toList_data]; rfl
  have hq2 : (bytes [104, 105]).toList.isEmpty = false := by rw [Lib.toList_data]; rfl
  clear h k
  go_enter Tryz.func59, Tryz.ntmps59
  go_wp2_with fail
  refine H.out.mono ?_
  rintro e w' ⟨rfl, rfl⟩
  go_wp2_with fail
  refine K.out.mono ?_
  rintro e w' ⟨rfl, rfl⟩
  go_wp2
  go_ret2
  exact ⟨rfl, rfl⟩
theorem dec34 : Lib.decDigits 34 = [51, 52] := by
  rw [Lib.decDigits, dif_neg (by decide), show 34 / 10 = 3 from rfl, Lib.decDigits_one (by decide)]
  rfl
theorem bytesWorld_below (w : World) (t : TypeId) (s : ByteArray) : Below w.heap.size w (Lib.bytesWorld w t s) := by
  unfold Lib.bytesWorld World.freeze World.alloc World.drew
  refine ⟨rfl, rfl, rfl, by simp, fun k hk => ?_⟩
  simp [Array.getElem?_modify, Array.getElem?_push, show ¬ w.heap.size = k by omega, show ¬ k = w.heap.size by omega]
theorem origin_34 (w : World) : Calls Tryz.prog 56 #[.string (bytes [51, 52])] w fun e w' => e = .returned (.tuple #[.int .i64 4, .int .i64 2, .bool true]) ∧ Below w.heap.size w w' := by
  have HA := Lib.hid (Tryz.strconv_Atoi (bytes [51, 52]) 34 (by decide) (by decide) w)
  have HI := Lib.hid (fun W => Tryz.strconv_Itoa_small 34 (by decide) W)
  have hq : (bytes [51, 52]).toList = [51, 52] := by rw [Lib.toList_data]; rfl
  rw [dec34] at HI
  go_enter Tryz.func56, Tryz.ntmps56
  go_wp2_with fail
  refine HA.out.mono ?_
  rintro e w2 ⟨rfl, t, rfl⟩
  have hb := bytesWorld_below w 5 t
  generalize Lib.bytesWorld w 5 t = w2 at hb ⊢
  go_wp2_with fail
  refine (HI.out _).mono ?_
  rintro e w3 ⟨rfl, rfl⟩
  go_wp2
  refine bodyPost_ret (v := .tuple #[.int .i64 4, .int .i64 2, .bool true]) (by simp [results, Tryz.results56, go_sem]) rfl ⟨rfl, hb⟩
end Go.Proofs.YtnaijahhogndjaaGreatDoor
