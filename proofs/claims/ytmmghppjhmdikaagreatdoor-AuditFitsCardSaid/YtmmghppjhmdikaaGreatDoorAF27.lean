/- The texts RefParse, Both, one behind the other. -/
import Derived.Test.YtmmghppjhmdikaaGreatDoorAF42
import Derived.Test.YtmmghppjhmdikaaGreatDoorAF43
import Derived.Test.YtmmghppjhmdikaaGreatDoorAF44
import Derived.Test.YtmmghppjhmdikaaGreatDoorAF45
import Derived.Test.YtmmghppjhmdikaaGreatDoorAF47
import Derived.Test.YtmmghppjhmdikaaGreatDoorAF48
import Derived.Test.YtmmghppjhmdikaaGreatDoorAF49
import Derived.Test.YtmmghppjhmdikaaGreatDoorAF20
/- What the document's own Parse answers of every text. Conditions: the tables stand; the size. -/
namespace Go.Proofs.YtmmghppjhmdikaaGreatDoor
open Go.ChangeShapes Go.WideShapes Go.ChangeAt Go.RowKit

theorem refParse_any (s : ByteArray) (w : World) (hs : s.size ≤ 16777216) (hS : Std w) :
    Calls Tryz.prog 5 #[.string s] w (RefParseAns s.data.toList w) := by
  by_cases h1 : S1 s.data.toList
  · by_cases h2 : S2 s.data.toList
    · by_cases h3 : S3 s.data.toList
      · by_cases h4 : S4 s.data.toList
        · by_cases h5 : S5 s.data.toList
          · by_cases h6 : S6 s.data.toList
            · exact refParse_6 s w hs hS h6
            · exact refParse_5 s w hs hS h5 h6
          · exact refParse_4 s w hs hS h4 h5
        · exact refParse_3 s w hs hS h3 h4
      · exact refParse_2 s w hs hS h2 h3
    · exact refParse_1 s w hs hS h1 h2
  · exact refParse_0 s w hs hS h1
end Go.Proofs.YtmmghppjhmdikaaGreatDoor
/- One answer for both readers: the program's Parse and the document's own, whatever the text. Conditions: the tables stand, and the text has at most 1048576 bytes. -/
namespace Go.Proofs.YtmmghppjhmdikaaGreatDoor.Bf
open Go.ChangeShapes Go.WideShapes Go.ChangeAt Go.RowKit

/-- Ten cells of a block hold an event. -/
abbrev TenAt (b : Nat) (g f : Int) (t : Bool) (a : Int) (ho ap pr id : ByteArray) (dv : Value) (tx : ByteArray) (W : World) : Prop :=
  b < W.heap.size ∧ W.cell? ⟨b, 0, none⟩ = some (.int .i64 g) ∧ W.cell? ⟨b, 1, none⟩ = some (.int .i64 f) ∧ W.cell? ⟨b, 2, none⟩ = some (.bool t) ∧ W.cell? ⟨b, 3, none⟩ = some (.int .i64 a) ∧ W.cell? ⟨b, 4, none⟩ = some (.string ho) ∧ W.cell? ⟨b, 5, none⟩ = some (.string ap) ∧ W.cell? ⟨b, 6, none⟩ = some (.string pr) ∧ W.cell? ⟨b, 7, none⟩ = some (.string id) ∧ W.cell? ⟨b, 8, none⟩ = some dv ∧ W.cell? ⟨b, 9, none⟩ = some (.string tx)
theorem ten_below {b : Nat} {g f : Int} {t : Bool} {a : Int} {ho ap pr id : ByteArray} {dv : Value} {tx : ByteArray} {W W' : World} (h : TenAt b g f t a ho ap pr id dv tx W) (hb : Below W.heap.size W W') : TenAt b g f t a ho ap pr id dv tx W' := by
  obtain ⟨hl, h0, h1, h2, h3, h4, h5, h6, h7, h8, h9⟩ := h
  have hc := (bcell hb).1
  exact ⟨Nat.lt_of_lt_of_le hl hb.size, (hc _ _ hl).trans h0, (hc _ _ hl).trans h1, (hc _ _ hl).trans h2, (hc _ _ hl).trans h3, (hc _ _ hl).trans h4, (hc _ _ hl).trans h5, (hc _ _ hl).trans h6, (hc _ _ hl).trans h7, (hc _ _ hl).trans h8, (hc _ _ hl).trans h9⟩
/-- An event is answered, and a number beside it. -/
def Told (g f : Int) (t : Bool) (a : Int) (ho ap pr id : ByteArray) (da : List Elm) (tx : ByteArray) (E : Int) (W : World) (e : Ending) (w' : World) : Prop :=
  ∃ la lc, e = .returned (.tuple #[.agg #[.int .i64 g, .int .i64 f, .bool t, .int .i64 a, .string ho, .string ap, .string pr, .string id, .slice la da.length lc, .string tx], .int .i64 E]) ∧ ElmsAt w' (.slice la da.length lc) da ∧ Below W.heap.size W w'
theorem told_bad {W w' : World} {e : Ending} (h : BadAns W e w') : Told 0 0 false 0 ⟨#[]⟩ ⟨#[]⟩ ⟨#[]⟩ ⟨#[]⟩ [] ⟨#[]⟩ 3 W e w' := ⟨none, 0, h.1, ElmsAt.nil _ _ _, h.2⟩
theorem told_good {g f a : Int} {t : Bool} {ho ap pr id tx : List UInt8} {da : List Elm} {W w' : World} {e : Ending} (h : GoodAns g f t a ho ap pr id tx da W e w') : Told g f t a (bytes ho) (bytes ap) (bytes pr) (bytes id) da (bytes tx) 0 W e w' := h
theorem both (s : ByteArray) (w : World) (hS0 : Std w) (hm0 : Max w) (hP0 : Cal.Pow w) (hE0 : Errs w) (hs : s.size ≤ 1048576)
    (HR : ∀ W, Std W → Calls Tryz.prog 5 #[.string s] W (RefParseAns s.data.toList W)) :
    ∃ (g f : Int) (t : Bool) (a : Int) (ho ap pr id : ByteArray) (da : List Elm) (tx : ByteArray) (E : Int), ElmsFit da ∧ (E = 0 ∨ E = 3) ∧
      (∀ W, Below w.heap.size w W → Calls Tryz.prog 16 #[.string s] W (Told g f t a ho ap pr id da tx E W)) ∧ (∀ W, Below w.heap.size w W → Calls Tryz.prog 5 #[.string s] W (Told g f t a ho ap pr id da tx E W)) := by
  have hsl : s.data.toList.length ≤ 16777216 := by rw [list_size]; omega
  by_cases hx : ∃ gr fr at' td h a p i tx es, Reads s.data.toList gr fr at' td h a p i tx es ∧ rightE ⟨gr, fr, td, at', bytes h, bytes a, bytes p, bytes i, es, bytes tx⟩ = 0
  · obtain ⟨gr, fr, at', td, h, a, p, i, tx, es, hr, hR⟩ := hx
    have hlen := (parse_reads hr hR w hS0 hm0 hP0 hE0 hsl).2.1
    refine ⟨gr, fr, td, at', bytes h, bytes a, bytes p, bytes i, es, bytes tx, 0, fit_of_len (by rw [list_size] at hlen; omega), .inl rfl, fun W hW => ?_, fun W hW => ?_⟩
    · have k := (parse_reads hr hR W (hS0.below hW) (hm0.below hW) (hP0.below hW) (hE0.below hW) hsl).1
      rw [bytes_self] at k
      exact k.mono fun e w' h => told_good h
    · refine (HR W (hS0.below hW)).mono fun e w' h => ?_
      have hd := (reads_agree hR).1 hr
      rcases h with ⟨_, hn⟩ | ⟨_, _, _, _, _, _, _, _, _, _, hd', _, hg⟩
      · exact absurd hR (hn _ _ _ _ _ _ _ _ _ _ hd)
      · obtain ⟨rfl, rfl, rfl, rfl, rfl, rfl, rfl, rfl, rfl, rfl⟩ := dreads_one hd hd'
        exact told_good hg
  · refine ⟨0, 0, false, 0, ⟨#[]⟩, ⟨#[]⟩, ⟨#[]⟩, ⟨#[]⟩, [], ⟨#[]⟩, 3, fit_of_len (by simp [elmsT]), .inr rfl, fun W hW => ?_, fun W hW => ?_⟩
    · have k := parse_unread s.data.toList W (hS0.below hW) (hm0.below hW) (hP0.below hW) (hE0.below hW) hsl fun gr fr at' td h a p i tx es hr hR => hx ⟨_, _, _, _, _, _, _, _, _, _, hr, hR⟩
      rw [bytes_self] at k
      exact k.mono fun e w' h => told_bad h
    · refine (HR W (hS0.below hW)).mono fun e w' h => ?_
      rcases h with ⟨hb, _⟩ | ⟨_, _, _, _, _, _, _, _, _, _, hd', hR, _⟩
      · exact told_bad hb
      · exact absurd ⟨_, _, _, _, _, _, _, _, _, _, (reads_agree hR).2 hd', hR⟩ hx
end Go.Proofs.YtmmghppjhmdikaaGreatDoor.Bf
