/- The texts Moment, MomentAny, one behind the other. -/
import Derived.Test.YtmmghppjhmdikaaGreatDoorAF38
import Derived.Test.YtmmghppjhmdikaaGreatDoorAF14
import Derived.Test.YtmmghppjhmdikaaGreatDoorAF22
/- What sysl.moment answers of every text. Condition: the table of months' lengths stands; the size. -/
namespace Go.Proofs.YtmmghppjhmdikaaGreatDoor
open Go.ChangeShapes Go.WideShapes Go.ChangeAt Go.RowKit

theorem parsed_err {l t : List UInt8} {y m d h i s n z err : Int} (hp : Cal.ParsedAs l y m d h i s n z t err) : err = 0 ∨ err = 3 := by
  obtain ⟨t1, t2, t3, t4, t5, t6, e1, e2, e3, e4, e5, e6, hc⟩ := hp
  rcases hc with ⟨_, _, _, _, _, _, _, _, _, _, he⟩ | ⟨hf6, N, Z, eN, eZ, hc⟩
  · exact .inr he
  · rcases hc with ⟨_, _, _, _, _, _, _, _, _, _, he⟩ | ⟨_, _, _, _, _, _, _, _, _, _, he⟩
    · exact .inl he
    · exact .inr he
/-- What moment answers. -/
def MomentAns (l : List UInt8) (w : World) (e : Ending) (w' : World) : Prop :=
  ((l = [] ∧ e = .returned (.tuple #[.bool false, .int .i64 0, .bool true])) ∨
    (l ≠ [] ∧ ∃ (y m d h i s n z : Int) (t : List UInt8) (err : Int), Cal.ParsedAs l y m d h i s n z t err ∧
      ((err = 0 ∧ t = [] ∧ e = .returned (.tuple #[.bool true, .int .i64 (Cal.nanosI y m d h i s n z), .bool true])) ∨ (¬ (err = 0 ∧ t = []) ∧ e = .returned (.tuple #[.bool false, .int .i64 0, .bool false]))))) ∧ Below w.heap.size w w'
set_option maxHeartbeats 1000000 in
set_option maxRecDepth 100000 in
theorem moment_any (l : List UInt8) (w : World) (ht : Cal.Tab w) (hl : l.length ≤ 9223372036854775807) : Calls Tryz.prog 32 #[.string (bytes l)] w (MomentAns l w) := by
  have hq := bytes_empty l
  by_cases h0 : l = []
  · rw [decide_eq_true h0] at hq
    have HL := Lib.hid h0
    clear h0
    go_enter Tryz.func32, Tryz.ntmps32
    go_wp2
    refine bodyPost_ret (v := .tuple #[.bool false, .int .i64 0, .bool true]) (by simp [results, Tryz.results32, go_sem]) rfl ⟨.inl ⟨HL.out, rfl⟩, Below.refl _ _⟩
  · rw [decide_eq_false h0] at hq
    have HL := Lib.hid h0
    clear h0
    go_enter Tryz.func32, Tryz.ntmps32
    go_wp2_with fail
    refine (Cal.parse_any l _ ht hl).mono ?_
    rintro e w2 ⟨y, m, d, h, i, s, n, z, t, err, rfl, hp, hb2⟩
    have HP := Lib.hid hp
    have hq2 : (Cal.bytes t).toList.isEmpty = decide (t = []) := bytes_empty t
    have T2 := ht.below hb2
    rcases parsed_err hp with rfl | rfl
    · by_cases h1 : t = []
      · rw [decide_eq_true h1] at hq2
        have HR := Lib.hid (Cal.parsed_right hp rfl).1
        have HT := Lib.hid h1
        have HB := Lib.hid (fun o => hb2.alloc hb2.size o)
        clear hp h1 hb2
        go_wp2_with fail
        refine (Cal.nanos_yes y m d h i s n z _ (T2.below ((Below.refl _ _).alloc (Nat.le_refl _) _)) HR.out).mono ?_
        rintro e w3 ⟨rfl, hb3⟩
        have B3 := (HB.out _).trans (hb3.mono (HB.out _).size)
        clear hb3
        go_wp2
        refine bodyPost_ret (v := .tuple #[.bool true, .int .i64 (Cal.nanosI y m d h i s n z), .bool true]) (by simp [results, Tryz.results32, go_sem]) rfl ⟨.inr ⟨HL.out, y, m, d, h, i, s, n, z, t, 0, HP.out, .inl ⟨rfl, HT.out, rfl⟩⟩, B3⟩
      · rw [decide_eq_false h1] at hq2
        have HT := Lib.hid h1
        have HB := Lib.hid (fun o => hb2.alloc hb2.size o)
        clear hp h1 hb2
        go_wp2
        refine bodyPost_ret (v := .tuple #[.bool false, .int .i64 0, .bool false]) (by simp [results, Tryz.results32, go_sem]) rfl ⟨.inr ⟨HL.out, y, m, d, h, i, s, n, z, t, 0, HP.out, .inr ⟨fun hh => HT.out hh.2, rfl⟩⟩, HB.out _⟩
    · have HB := Lib.hid (fun o => hb2.alloc hb2.size o)
      clear hp hb2
      go_wp2
      refine bodyPost_ret (v := .tuple #[.bool false, .int .i64 0, .bool false]) (by simp [results, Tryz.results32, go_sem]) rfl ⟨.inr ⟨HL.out, y, m, d, h, i, s, n, z, t, 3, HP.out, .inr ⟨fun hh => absurd hh.1 (by decide), rfl⟩⟩, HB.out _⟩
end Go.Proofs.YtmmghppjhmdikaaGreatDoor
/- What sysl.moment answers of a text, whatever the world: the one or the other; and of a right time's text: its moment. -/
namespace Go.Proofs.YtmmghppjhmdikaaGreatDoor
open Go.ChangeShapes Go.WideShapes Go.ChangeAt Go.RowKit
open Cal (clamp DateIs dateText nanosI rightB)

theorem parsed_one {l t t' : List UInt8} {y m d h i s n z err y' m' d' h' i' s' n' z' err' : Int} (hp : Cal.ParsedAs l y m d h i s n z t err) (hq : Cal.ParsedAs l y' m' d' h' i' s' n' z' t' err') :
    y = y' ∧ m = m' ∧ d = d' ∧ h = h' ∧ i = i' ∧ s = s' ∧ n = n' ∧ z = z' ∧ t = t' ∧ err = err' := by
  obtain ⟨t1, t2, t3, t4, t5, t6, e1, e2, e3, e4, e5, e6, hc⟩ := hp
  obtain ⟨u1, u2, u3, u4, u5, u6, g1, g2, g3, g4, g5, g6, hd⟩ := hq
  obtain rfl : t1 = u1 := e1.symm.trans g1
  obtain rfl : t2 = u2 := e2.symm.trans g2
  obtain rfl : t3 = u3 := e3.symm.trans g3
  obtain rfl : t4 = u4 := e4.symm.trans g4
  obtain rfl : t5 = u5 := e5.symm.trans g5
  obtain rfl : t6 = u6 := e6.symm.trans g6
  rcases hc with ⟨a0, a1, a2, a3, a4, a5, a6, a7, a8, a9, aa⟩ | ⟨a0, N, Z, eN, eZ, hc⟩
  · rcases hd with ⟨b0, b1, b2, b3, b4, b5, b6, b7, b8, b9, bb⟩ | ⟨b0, _⟩
    · exact ⟨a1.trans b1.symm, a2.trans b2.symm, a3.trans b3.symm, a4.trans b4.symm, a5.trans b5.symm, a6.trans b6.symm, a7.trans b7.symm, a8.trans b8.symm, a9.trans b9.symm, aa.trans bb.symm⟩
    · rw [a0] at b0; cases b0
  · rcases hd with ⟨b0, _⟩ | ⟨b0, N', Z', gN, gZ, hd⟩
    · rw [a0] at b0; cases b0
    · obtain rfl : N = N' := eN.symm.trans gN
      obtain rfl : Z = Z' := eZ.symm.trans gZ
      rcases hc with ⟨k, a1, a2, a3, a4, a5, a6, a7, a8, a9, aa⟩ | ⟨k, a1, a2, a3, a4, a5, a6, a7, a8, a9, aa⟩
      · rcases hd with ⟨k', b1, b2, b3, b4, b5, b6, b7, b8, b9, bb⟩ | ⟨k', _⟩
        · exact ⟨a1.trans b1.symm, a2.trans b2.symm, a3.trans b3.symm, a4.trans b4.symm, a5.trans b5.symm, a6.trans b6.symm, a7.trans b7.symm, a8.trans b8.symm, a9.trans b9.symm, aa.trans bb.symm⟩
        · exact absurd k k'
      · rcases hd with ⟨k', _⟩ | ⟨k', b1, b2, b3, b4, b5, b6, b7, b8, b9, bb⟩
        · exact absurd k' k
        · exact ⟨a1.trans b1.symm, a2.trans b2.symm, a3.trans b3.symm, a4.trans b4.symm, a5.trans b5.symm, a6.trans b6.symm, a7.trans b7.symm, a8.trans b8.symm, a9.trans b9.symm, aa.trans bb.symm⟩
/-- What moment's answer is, whatever the world. -/
theorem moment_cases (l : List UInt8) (hl : l.length ≤ 16777216) :
    (∃ (td : Bool) (at' : Int), ∀ W, Cal.Tab W → Calls Tryz.prog 32 #[.string (bytes l)] W fun e w' => e = .returned (.tuple #[.bool td, .int .i64 at', .bool true]) ∧ Below W.heap.size W w') ∨
    (∀ W, Cal.Tab W → Calls Tryz.prog 32 #[.string (bytes l)] W fun e w' => e = .returned (.tuple #[.bool false, .int .i64 0, .bool false]) ∧ Below W.heap.size W w') := by
  by_cases h0 : l = []
  · refine .inl ⟨false, 0, fun W hW => (moment_any l W hW (by omega)).mono ?_⟩
    rintro e w' ⟨⟨_, he⟩ | ⟨h1, _⟩, hb⟩
    · exact ⟨he, hb⟩
    · exact absurd h0 h1
  · by_cases hx : ∃ y m d h i s n z : Int, Cal.ParsedAs l y m d h i s n z [] 0
    · obtain ⟨y, m, d, h, i, s, n, z, hp⟩ := hx
      refine .inl ⟨true, nanosI y m d h i s n z, fun W hW => (moment_any l W hW (by omega)).mono ?_⟩
      rintro e w' ⟨⟨h1, _⟩ | ⟨_, y', m', d', h', i', s', n', z', t', err', hq, hc⟩, hb⟩
      · exact absurd h1 h0
      · obtain ⟨rfl, rfl, rfl, rfl, rfl, rfl, rfl, rfl, rfl, rfl⟩ := parsed_one hp hq
        rcases hc with ⟨_, _, he⟩ | ⟨hn, _⟩
        · exact ⟨he, hb⟩
        · exact absurd ⟨rfl, rfl⟩ hn
    · refine .inr fun W hW => (moment_any l W hW (by omega)).mono ?_
      rintro e w' ⟨⟨h1, _⟩ | ⟨_, y', m', d', h', i', s', n', z', t', err', hq, hc⟩, hb⟩
      · exact absurd h1 h0
      · rcases hc with ⟨rfl, rfl, _⟩ | ⟨_, he⟩
        · exact absurd ⟨_, _, _, _, _, _, _, _, hq⟩ hx
        · exact ⟨he, hb⟩
/-- What moment answers of a right time's text. -/
theorem moment_time {td : Bool} {a : Int} {T : List UInt8} (h : TimeIs td a T) (hr : timeB td a = true) (W : World) (hW : Cal.Tab W) :
    Calls Tryz.prog 32 #[.string (bytes (if T = [45] then [] else T))] W fun e w' => e = .returned (.tuple #[.bool td, .int .i64 a, .bool true]) ∧ Below W.heap.size W w' := by
  have hl := time_len h
  rcases h with ⟨rfl, rfl⟩ | ⟨rfl, y, m, d, hh, i, s, k, hD, rfl⟩
  · have ha : a = 0 := of_decide_eq_true hr
    subst ha
    rw [if_pos rfl]
    refine (moment_any [] W hW (by decide)).mono ?_
    rintro e w' ⟨⟨_, he⟩ | ⟨h1, _⟩, hb⟩
    · exact ⟨he, hb⟩
    · exact absurd rfl h1
  · have ha : clamp a - clamp a % 1000 = a := of_decide_eq_true hr
    obtain ⟨hr2, hn⟩ := hD
    have hne : dateText y m d hh i s k 0 ≠ [45] := fun h => by
      have e := congrArg List.length h
      unfold dateText at e
      simp only [List.length_append, Cal.pad_length, List.length_cons, List.length_nil] at e
      omega
    have hne0 : dateText y m d hh i s k 0 ≠ [] := fun h => by
      have e := congrArg List.length h
      unfold dateText at e
      simp only [List.length_append, Cal.pad_length, List.length_cons, List.length_nil] at e
      omega
    rw [if_neg hne]
    refine (moment_any _ W hW (by omega)).mono ?_
    rintro e w' ⟨⟨h1, _⟩ | ⟨_, y', m', d', h', i', s', n', z', t', err', hq, hc⟩, hb⟩
    · exact absurd h1 hne0
    · obtain ⟨rfl, rfl, rfl, rfl, rfl, rfl, rfl, rfl, rfl, rfl⟩ := Cal.text_back hr2 [] (by rw [List.append_nil]; exact hq)
      rcases hc with ⟨_, _, he⟩ | ⟨hn2, _⟩
      · exact ⟨by rw [he, hn, ha], hb⟩
      · exact absurd ⟨rfl, rfl⟩ hn2
end Go.Proofs.YtmmghppjhmdikaaGreatDoor
