/- What Nanos answers, and that the document's examples ('shown') hold. Conditions: the table of months' lengths stands. -/
import Derived.Test.YtnaijahhogndjaaGreatDoorCalBase
namespace Go.Proofs.YtnaijahhogndjaaGreatDoor.Cal
open Go.ChangeShapes Go.WideShapes Go.ChangeAt Go.RowKit

theorem nanos_no (y m d h i s n z : Int) (w : World) (ht : Tab w) (hr : rightB y m d h i s n z = false) :
    Calls Tryz.prog 71 #[.agg #[.int .i64 y, .int .i64 m, .int .i64 d, .int .i64 h, .int .i64 i, .int .i64 s, .int .i64 n, .int .i64 z]] w
      fun e w' => e = .returned (.tuple #[.int .i64 0, .int .i64 1]) ∧ Below w.heap.size w w' := by
  have hb : Below w.heap.size w (w.alloc (.cells #[.int .i64 y, .int .i64 m, .int .i64 d, .int .i64 h, .int .i64 i, .int .i64 s, .int .i64 n, .int .i64 z] 62)) := (Below.refl _ _).alloc (Nat.le_refl _) _
  have ht1 := ht.below hb
  go_enter Tryz.func71, Tryz.ntmps71
  go_wp2_with (go_at_call 95; refine (right_any _ _ _ _ _ _ _ _ _ ht1).mono ?_; rintro e w' ⟨rfl, hb2⟩)
  go_ret2
  exact ⟨rfl, hb.trans (hb2.mono (by simp))⟩
theorem bcell {W w1 : World} (hb : Below W.heap.size W w1) : (∀ b o, b < W.heap.size → w1.cell? ⟨b, o, none⟩ = W.cell? ⟨b, o, none⟩) ∧ (∀ b o, b < W.heap.size → w1.frozen? ⟨b, o, none⟩ = W.frozen? ⟨b, o, none⟩) :=
  ⟨fun b o h => hb.cell (p := ⟨b, o, none⟩) h, fun b o h => hb.frozen (p := ⟨b, o, none⟩) h⟩
theorem nanosI_bd {y m d h i s n z : Int} (hr : rightB y m d h i s n z = true) : -8520336000000000000 - 86340000000000 ≤ nanosI y m d h i s n z ∧ nanosI y m d h i s n z < 8867491200000000000 + 86340000000000 := by
  obtain ⟨⟨y1, y2⟩, ⟨d1, d2⟩, ⟨h1, h2⟩, ⟨i1, i2⟩, ⟨s1, s2⟩, ⟨n1, n2⟩, _, ⟨z1, z2⟩⟩ := (right_iff ..).1 hr
  have := daysI_bd y1 y2 d1 d2
  unfold nanosI
  generalize daysI y m d = D at this ⊢
  omega
set_option maxHeartbeats 1000000 in
theorem nanos_yes (y m d h i s n z : Int) (w : World) (ht : Tab w) (hr : rightB y m d h i s n z = true) :
    Calls Tryz.prog 71 #[.agg #[.int .i64 y, .int .i64 m, .int .i64 d, .int .i64 h, .int .i64 i, .int .i64 s, .int .i64 n, .int .i64 z]] w
      fun e w' => e = .returned (.tuple #[.int .i64 (nanosI y m d h i s n z), .int .i64 0]) ∧ Below w.heap.size w w' := by
  obtain ⟨⟨y1, y2⟩, ⟨d1, d2⟩, ⟨h1, h2⟩, ⟨i1, i2⟩, ⟨s1, s2⟩, ⟨n1, n2⟩, _, ⟨z1, z2⟩⟩ := (right_iff ..).1 hr
  have hd := daysI_bd y1 y2 d1 d2
  have hr0 : rightB y m d 0 0 0 0 0 = true := (right_iff ..).2 ⟨⟨y1, y2⟩, ⟨d1, d2⟩, by omega⟩
  have hb : Below w.heap.size w (w.alloc (.cells #[.int .i64 y, .int .i64 m, .int .i64 d, .int .i64 h, .int .i64 i, .int .i64 s, .int .i64 n, .int .i64 z] 62)) := (Below.refl _ _).alloc (Nat.le_refl _) _
  have ht1 := ht.below hb
  go_enter Tryz.func71, Tryz.ntmps71
  go_wp2_with fail
  refine (right_any _ _ _ _ _ _ _ _ _ ht1).mono ?_
  rintro e w2 ⟨rfl, hb2⟩
  have ht2 := ht1.below hb2
  have B2 : Below w.heap.size w w2 := hb.trans (hb2.mono (by simp))
  obtain ⟨hc2, hf2⟩ := bcell hb2
  clear ht ht1
  go_wp2_with fail
  refine (days_yes _ _ _ _ ht2 hr0).mono ?_
  rintro e w3 ⟨rfl, hb3⟩
  have B3 : Below w.heap.size w w3 := B2.trans (hb3.mono B2.size)
  obtain ⟨hc3, hf3⟩ := bcell hb3
  have hz : w.heap.size < w2.heap.size := by have := hb2.size; simp at this; omega
  clear ht2
  have HN := Lib.hid (show nanosI y m d h i s n z = daysI y m d * 86400000000000 + h * 3600000000000 + (i - z) * 60000000000 + s * 1000000000 + n from rfl)
  generalize daysI y m d = D at hd HN ⊢
  clear hr hr0 hb hb2 hb3 y1 y2 d1 d2 B2
  go_wp2
  go_ret2
  exact ⟨by rw [HN.out]; rfl, B3⟩

end Go.Proofs.YtnaijahhogndjaaGreatDoor.Cal
