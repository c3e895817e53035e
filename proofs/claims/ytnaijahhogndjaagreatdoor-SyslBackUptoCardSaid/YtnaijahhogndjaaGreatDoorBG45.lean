/- That the document's example is parsed as it says ('shown'). Conditions: the tables stand. -/
import Derived.Test.YtnaijahhogndjaaGreatDoorBG15
namespace Go.Proofs.YtnaijahhogndjaaGreatDoor
open Go.ChangeShapes Go.WideShapes Go.ChangeAt Go.RowKit

def S0 : List UInt8 := [60, 51, 52, 62, 49, 32, 45, 32, 104, 32, 97, 32, 45, 32, 45, 32, 45, 32, 104, 105]
theorem u1 : untilL [60] (S0, true) = ([], [51, 52, 62, 49, 32, 45, 32, 104, 32, 97, 32, 45, 32, 45, 32, 45, 32, 104, 105], true) := by decide
theorem u2 : untilL [62] ([51, 52, 62, 49, 32, 45, 32, 104, 32, 97, 32, 45, 32, 45, 32, 45, 32, 104, 105], true) = ([51, 52], [49, 32, 45, 32, 104, 32, 97, 32, 45, 32, 45, 32, 45, 32, 104, 105], true) := by decide
theorem u3 : untilL [32] ([49, 32, 45, 32, 104, 32, 97, 32, 45, 32, 45, 32, 45, 32, 104, 105], true) = ([49], [45, 32, 104, 32, 97, 32, 45, 32, 45, 32, 45, 32, 104, 105], true) := by decide
theorem t1 : toldL ([45, 32, 104, 32, 97, 32, 45, 32, 45, 32, 45, 32, 104, 105], true) = ([], [104, 32, 97, 32, 45, 32, 45, 32, 45, 32, 104, 105], true) := by decide
theorem t2 : toldL ([104, 32, 97, 32, 45, 32, 45, 32, 45, 32, 104, 105], true) = ([104], [97, 32, 45, 32, 45, 32, 45, 32, 104, 105], true) := by decide
theorem t3 : toldL ([97, 32, 45, 32, 45, 32, 45, 32, 104, 105], true) = ([97], [45, 32, 45, 32, 45, 32, 104, 105], true) := by decide
theorem t4 : toldL ([45, 32, 45, 32, 45, 32, 104, 105], true) = ([], [45, 32, 45, 32, 104, 105], true) := by decide
theorem t5 : toldL ([45, 32, 45, 32, 104, 105], true) = ([], [45, 32, 104, 105], true) := by decide
theorem right_hi : rightE ⟨2, 4, false, 0, bytes [104], bytes [97], bytes [], bytes [], [], bytes [104, 105]⟩ = 0 := by decide
theorem parse_shown (w : World) (hS : Std w) (hm : Max w) : Calls Tryz.prog 23 #[.string (bytes S0)] w (GoodAns 2 4 false 0 [104] [97] [] [] [104, 105] [] w) :=
  parse_good S0 _ _ _ _ _ _ _ _ [32, 104, 105] [51, 52] [] [104] [97] [] [] [104, 105] 4 2 0 false [] w hS hm (by decide) u1 u2 u3 t1 t2 t3 t4 t5
    (fun W _ _ => origin_34 W)
    (fun W _ _ => (moment_none W).mono fun e w' ⟨h1, h2⟩ => ⟨h1, h2 ▸ Below.refl _ _⟩)
    (fun W _ _ => (elements_none [32, 104, 105] W).mono fun e w' ⟨h1, h2⟩ => ⟨none, 0, h1, fun V _ => ElmsAt.nil V none 0, h2 ▸ Below.refl _ _⟩)
    (fun W _ _ => (behind_hi W).mono fun e w' ⟨h1, h2⟩ => ⟨h1, h2 ▸ Below.refl _ _⟩)
    ⟨by decide, fun e he => by cases he⟩ (by decide) right_hi
set_option maxHeartbeats 1000000 in
set_option maxRecDepth 100000 in
theorem shown_any (w : World) (hS : Std w) (hm : Max w) : Calls Tryz.prog 10 #[] w fun e w' => e = .returned (.bool true) ∧ Below w.heap.size w w' := by
  have H := Lib.hid (parse_shown w hS hm)
  have q1 : ((bytes [104]).toList == [104]) = true := by rw [Lib.toList_data]; rfl
  have q2 : ((bytes [97]).toList == [97]) = true := by rw [Lib.toList_data]; rfl
  have q3 : (bytes []).toList.isEmpty = true := by rw [Lib.toList_data]; rfl
  have q4 : ((bytes [104, 105]).toList == [104, 105]) = true := by rw [Lib.toList_data]; rfl
  go_enter Tryz.func10, Tryz.ntmps10
  go_wp2_with fail
  refine H.out.mono ?_
  rintro e w2 ⟨la, lc, rfl, hE, hB⟩
  clear H
  have hB2 := hB.alloc hB.size (.cells #[.int .i64 2, .int .i64 4, .bool false, .int .i64 0, .string (bytes [104]), .string (bytes [97]), .string (bytes []), .string (bytes []), .slice la 0 lc, .string (bytes [104, 105])] 24)
  go_wp2
  go_ret
  exact ⟨rfl, hB2⟩
end Go.Proofs.YtnaijahhogndjaaGreatDoor
