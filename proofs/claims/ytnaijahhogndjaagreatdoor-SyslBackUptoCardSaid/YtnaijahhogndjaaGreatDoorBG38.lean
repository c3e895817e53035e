/- What sysl.moment answers of every text. Condition: the table of months' lengths stands; the size. -/
import Derived.Test.YtnaijahhogndjaaGreatDoorBG37
import Derived.Test.YtnaijahhogndjaaGreatDoorBG9
namespace Go.Proofs.YtnaijahhogndjaaGreatDoor
open Go.ChangeShapes Go.WideShapes Go.ChangeAt Go.RowKit

theorem parsed_err {l t : List UInt8} {y m d h i s n z err : Int} (hp : Cal.ParsedAs l y m d h i s n z t err) : err = 0 ∨ err = 3 := by
  obtain ⟨t1, t2, t3, t4, t5, t6, e1, e2, e3, e4, e5, e6, hc⟩ := hp
  rcases hc with ⟨_, _, _, _, _, _, _, _, _, _, he⟩ | ⟨hf6, N, Z, eN, eZ, hc⟩
  · exact .inr he
  · rcases hc with ⟨_, _, _, _, _, _, _, _, _, _, he⟩ | ⟨_, _, _, _, _, _, _, _, _, _, he⟩
    · exact .inl he
    · exact .inr he
/-- What moment answers. -/
def MomentAns (l : List UInt8) (w : World) (e : Ending) (w' : World) : Prop :=
  ((l = [] ∧ e = .returned (.tuple #[.bool false, .int .i64 0, .bool true])) ∨
    (l ≠ [] ∧ ∃ (y m d h i s n z : Int) (t : List UInt8) (err : Int), Cal.ParsedAs l y m d h i s n z t err ∧
      ((err = 0 ∧ t = [] ∧ e = .returned (.tuple #[.bool true, .int .i64 (Cal.nanosI y m d h i s n z), .bool true])) ∨ (¬ (err = 0 ∧ t = []) ∧ e = .returned (.tuple #[.bool false, .int .i64 0, .bool false]))))) ∧ Below w.heap.size w w'
set_option maxHeartbeats 1000000 in
set_option maxRecDepth 100000 in
theorem moment_any (l : List UInt8) (w : World) (ht : Cal.Tab w) (hl : l.length ≤ 9223372036854775807) : Calls Tryz.prog 57 #[.string (bytes l)] w (MomentAns l w) := by
  have hq := bytes_empty l
  by_cases h0 : l = []
  · rw [decide_eq_true h0] at hq
    have HL := Lib.hid h0
    clear h0
    go_enter Tryz.func57, Tryz.ntmps57
    go_wp2
    refine bodyPost_ret (v := .tuple #[.bool false, .int .i64 0, .bool true]) (by simp [results, Tryz.results57, go_sem]) rfl ⟨.inl ⟨HL.out, rfl⟩, Below.refl _ _⟩
  · rw [decide_eq_false h0] at hq
    have HL := Lib.hid h0
    clear h0
    go_enter Tryz.func57, Tryz.ntmps57
    go_wp2_with fail
    refine (Cal.parse_any l _ ht hl).mono ?_
    rintro e w2 ⟨y, m, d, h, i, s, n, z, t, err, rfl, hp, hb2⟩
    have HP := Lib.hid hp
    have hq2 : (Cal.bytes t).toList.isEmpty = decide (t = []) := bytes_empty t
    have T2 := ht.below hb2
    rcases parsed_err hp with rfl | rfl
    · by_cases h1 : t = []
      · rw [decide_eq_true h1] at hq2
        have HR := Lib.hid (Cal.parsed_right hp rfl).1
        have HT := Lib.hid h1
        have HB := Lib.hid (fun o => hb2.alloc hb2.size o)
        clear hp h1 hb2
        go_wp2_with fail
        refine (Cal.nanos_yes y m d h i s n z _ (T2.below ((Below.refl _ _).alloc (Nat.le_refl _) _)) HR.out).mono ?_
        rintro e w3 ⟨rfl, hb3⟩
        have B3 := (HB.out _).trans (hb3.mono (HB.out _).size)
        clear hb3
        go_wp2
        refine bodyPost_ret (v := .tuple #[.bool true, .int .i64 (Cal.nanosI y m d h i s n z), .bool true]) (by simp [results, Tryz.results57, go_sem]) rfl ⟨.inr ⟨HL.out, y, m, d, h, i, s, n, z, t, 0, HP.out, .inl ⟨rfl, HT.out, rfl⟩⟩, B3⟩
      · rw [decide_eq_false h1] at hq2
        have HT := Lib.hid h1
        have HB := Lib.hid (fun o => hb2.alloc hb2.size o)
        clear hp h1 hb2
        go_wp2
        refine bodyPost_ret (v := .tuple #[.bool false, .int .i64 0, .bool false]) (by simp [results, Tryz.results57, go_sem]) rfl ⟨.inr ⟨HL.out, y, m, d, h, i, s, n, z, t, 0, HP.out, .inr ⟨fun hh => HT.out hh.2, rfl⟩⟩, HB.out _⟩
    · have HB := Lib.hid (fun o => hb2.alloc hb2.size o)
      clear hp hb2
      go_wp2
      refine bodyPost_ret (v := .tuple #[.bool false, .int .i64 0, .bool false]) (by simp [results, Tryz.results57, go_sem]) rfl ⟨.inr ⟨HL.out, y, m, d, h, i, s, n, z, t, 3, HP.out, .inr ⟨fun hh => absurd hh.1 (by decide), rfl⟩⟩, HB.out _⟩
end Go.Proofs.YtnaijahhogndjaaGreatDoor
