/- How a message's elements lie in memory; the tables that the functions read. No call is spoken of. -/
import Derived.Test.YtnaijahhogndjaaGreatDoorBG3
import Derived.Test.YtnaijahhogndjaaGreatDoorBG2
import Derived.Test.YtnaijahhogndjaaGreatDoorBG1
namespace Go.Proofs.YtnaijahhogndjaaGreatDoor
open Go.ChangeShapes Go.WideShapes Go.ChangeAt Go.RowKit

abbrev Prm := ByteArray × ByteArray
abbrev Elm := ByteArray × List Prm
/-- A slice's value holds these parameters. -/
def PrmsAt (w : World) (v : Value) (ps : List Prm) : Prop :=
  ∃ (a : Option Addr) (c : Nat), v = .slice a ps.length c ∧ (0 < ps.length → ∃ b o : Nat, a = some ⟨b, o, none⟩ ∧ b < w.heap.size ∧
    ∀ j p, ps[j]? = some p → w.cell? ⟨b, o + 2 * j, none⟩ = some (.string p.1) ∧ w.cell? ⟨b, o + 2 * j + 1, none⟩ = some (.string p.2))
/-- A slice's value holds these elements. -/
def ElmsAt (w : World) (v : Value) (es : List Elm) : Prop :=
  ∃ (a : Option Addr) (c : Nat), v = .slice a es.length c ∧ (0 < es.length → ∃ b o : Nat, a = some ⟨b, o, none⟩ ∧ b < w.heap.size ∧
    ∀ j e, es[j]? = some e → ∃ lv, w.cell? ⟨b, o + 2 * j, none⟩ = some (.string e.1) ∧ w.cell? ⟨b, o + 2 * j + 1, none⟩ = some lv ∧ PrmsAt w lv e.2)
theorem PrmsAt.below {w w' : World} {v : Value} {ps : List Prm} (h : PrmsAt w v ps) (hb : Below w.heap.size w w') : PrmsAt w' v ps := by
  obtain ⟨a, c, rfl, h⟩ := h
  refine ⟨a, c, rfl, fun hn => ?_⟩
  obtain ⟨b, o, rfl, hlt, hc⟩ := h hn
  exact ⟨b, o, rfl, Nat.lt_of_lt_of_le hlt hb.size, fun j p hp => ⟨(hb.cell (p := ⟨b, _, none⟩) hlt).trans (hc j p hp).1, (hb.cell (p := ⟨b, _, none⟩) hlt).trans (hc j p hp).2⟩⟩
theorem ElmsAt.below {w w' : World} {v : Value} {es : List Elm} (h : ElmsAt w v es) (hb : Below w.heap.size w w') : ElmsAt w' v es := by
  obtain ⟨a, c, rfl, h⟩ := h
  refine ⟨a, c, rfl, fun hn => ?_⟩
  obtain ⟨b, o, rfl, hlt, hc⟩ := h hn
  refine ⟨b, o, rfl, Nat.lt_of_lt_of_le hlt hb.size, fun j e he => ?_⟩
  obtain ⟨lv, c1, c2, hp⟩ := hc j e he
  exact ⟨lv, (hb.cell (p := ⟨b, _, none⟩) hlt).trans c1, (hb.cell (p := ⟨b, _, none⟩) hlt).trans c2, hp.below hb⟩
theorem PrmsAt.nil (w : World) (a : Option Addr) (c : Nat) : PrmsAt w (.slice a 0 c) [] := ⟨a, c, rfl, fun h => absurd h (by decide)⟩
theorem ElmsAt.nil (w : World) (a : Option Addr) (c : Nat) : ElmsAt w (.slice a 0 c) [] := ⟨a, c, rfl, fun h => absurd h (by decide)⟩

/-- The tables stand: the months' lengths, and those of unicode/utf8. -/
def Std (w : World) : Prop := Cal.Tab w ∧ Lib.Utf8Tabs 0 1 w
theorem Std.below {w w' : World} (h : Std w) (hb : Below w.heap.size w w') : Std w' := ⟨h.1.below hb, Utf8Tabs_below h.2 hb⟩
theorem valid_any (s : ByteArray) (w : World) (hs : s.size ≤ 9223372036854775807) (h : Std w) :
    Calls Tryz.prog 44 #[.string s] w fun e w' => e = .returned (.bool (Lib.validD s.data.toList)) ∧ Below w.heap.size w w' := Tryz.utf8_ValidString s w hs h.2

/-! ### the first place at which something holds -/
def fstI {α : Type} (p : α → Bool) (l : List α) : Int := if l.findIdx p < l.length then (l.findIdx p : Int) else -1
theorem fstI_at {α : Type} {p : α → Bool} {l : List α} {k : Nat} {x : α} (hx : l[k]? = some x) (hp : p x = true) (hn : ∀ y ∈ l.take k, p y = false) : fstI p l = k := by
  have hk : k < l.length := by
    rcases Nat.lt_or_ge k l.length with h | h
    · exact h
    · rw [List.getElem?_eq_none h] at hx; cases hx
  have hxe : l[k] = x := by rw [List.getElem?_eq_getElem hk] at hx; exact Option.some.inj hx
  have e : l.findIdx p = k := by
    rw [List.findIdx_eq hk]
    refine ⟨by rw [hxe]; exact hp, fun j hj => ?_⟩
    have := hn l[j] (by rw [List.mem_take_iff_getElem]; exact ⟨j, by omega, rfl⟩)
    simpa using this
  unfold fstI
  rw [e, if_pos hk]
theorem fstI_none {α : Type} {p : α → Bool} {l : List α} (h : ∀ y ∈ l, p y = false) : fstI p l = -1 := by
  unfold fstI
  rw [if_neg]
  intro hlt
  have := List.findIdx_getElem (w := hlt)
  rw [h _ (List.getElem_mem hlt)] at this
  cases this
theorem fstI_any {α : Type} (p : α → Bool) (l : List α) : (0 ≤ fstI p l) = (l.any p = true) := by
  apply propext
  unfold fstI
  split
  · rename_i h
    constructor
    · intro _
      rw [List.any_eq_true]
      exact ⟨l[l.findIdx p], List.getElem_mem h, List.findIdx_getElem⟩
    · intro _; omega
  · rename_i h
    constructor
    · intro h'; omega
    · intro hx
      rw [List.any_eq_true] at hx
      obtain ⟨x, hx1, hx2⟩ := hx
      exact absurd (List.findIdx_lt_length_of_exists ⟨x, hx1, hx2⟩) h
end Go.Proofs.YtnaijahhogndjaaGreatDoor
