/- What sysl.timeText answers of a right event: the text of its moment's date. Conditions: the tables stand. -/
import Derived.Test.YtnaijahhogndjaaGreatDoorCalPrinted
import Derived.Test.YtnaijahhogndjaaGreatDoorRight
namespace Go.Proofs.YtnaijahhogndjaaGreatDoor
open Go.ChangeShapes Go.WideShapes Go.ChangeAt Go.RowKit
open Cal (clamp DateIs dateText nanosI rightB)

/-- The text of an event's moment. -/
def TimeIs (td : Bool) (a : Int) (T : List UInt8) : Prop := (td = false ∧ T = [45]) ∨ (td = true ∧ ∃ y m d h i s k, DateIs (clamp a) y m d h i s k ∧ T = dateText y m d h i s k 0)
set_option maxHeartbeats 4000000 in
set_option maxRecDepth 100000 in
theorem timeText_any (e : Ev) (dv : Value) (w : World) (hS : Std w) (hP : Cal.Pow w) (h : ∃ a n c, dv = .slice a n c) :
    Calls Tryz.prog 28 #[e.val dv] w fun r w' => ∃ T, TimeIs e.timed e.at' T ∧ r = .returned (.string (bytes T)) ∧ Below w.heap.size w w' := by
  obtain ⟨la, ln, lc, rfl⟩ := h
  obtain ⟨g, f, t, a, ho, ap, pr, id, da, tx⟩ := e
  have hb : ∀ tt, Below w.heap.size w (w.alloc (.cells #[.int .i64 g, .int .i64 f, .bool tt, .int .i64 a, .string ho, .string ap, .string pr, .string id, .slice la ln lc, .string tx] 24)) := fun _ => (Below.refl _ _).alloc (Nat.le_refl _) _
  have hS1 := fun tt => hS.below (hb tt)
  have hP1 := fun tt => hP.below (hb tt)
  show Calls _ _ _ _ fun r w' => ∃ T, TimeIs t a T ∧ r = .returned (.string (bytes T)) ∧ _
  cases t with
  | false =>
    have hB := hb false
    clear hb hS1 hP1
    go_enter Tryz.func28, Tryz.ntmps28
    go_wp2
    go_ret
    exact ⟨[45], .inl ⟨rfl, rfl⟩, rfl, hB⟩
  | true =>
    have hB := hb true
    have hT := (hS1 true).1
    have hPP := hP1 true
    clear hb hS1 hP1
    go_enter Tryz.func28, Tryz.ntmps28
    go_wp2_with fail
    refine (Cal.date_any a _ hT).mono ?_
    rintro r w2 ⟨y, m, d, hh, i, s, k, rfl, hD, hb2⟩
    have B2 := hB.trans (hb2.mono hB.size)
    have hT2 := hT.below hb2
    have hP2 := hPP.below hb2
    have HD := Lib.hid hD
    clear hb2 hD
    go_wp2_with fail
    refine (Cal.text_yes y m d hh i s k 0 w2 hT2 hP2 (HD.out).1).mono ?_
    rintro r w3 ⟨rfl, hb3⟩
    have B3 := B2.trans (hb3.mono B2.size)
    clear hb3
    go_wp2
    go_ret
    exact ⟨_, .inr ⟨rfl, y, m, d, hh, i, s, k, HD.out, rfl⟩, rfl, B3⟩
end Go.Proofs.YtnaijahhogndjaaGreatDoor
