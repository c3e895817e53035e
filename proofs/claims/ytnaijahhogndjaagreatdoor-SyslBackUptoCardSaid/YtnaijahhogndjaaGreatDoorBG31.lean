/- A text's event, as a list tells it: what sysl.Parse takes off a text, part by part; and that a right event's text tells it again. -/
import Derived.Test.YtnaijahhogndjaaGreatDoorBG25
import Derived.Test.YtnaijahhogndjaaGreatDoorBG9
import Derived.Test.YtnaijahhogndjaaGreatDoorBG29
import Derived.Test.YtnaijahhogndjaaGreatDoorBG30
namespace Go.Proofs.YtnaijahhogndjaaGreatDoor
open Go.ChangeShapes Go.WideShapes Go.ChangeAt Go.RowKit

/-- Parameters, so many at most, off a text. -/
def prmsL : Nat → List UInt8 → Option (List Prm × List UInt8)
  | 0, l => some ([], l)
  | n + 1, l =>
    if Lib.hasPrefix l [32] = true then
      if Lib.hasPrefix ((Lib.trimPrefix l [32]).drop (nameAt (Lib.trimPrefix l [32]))) [61, 34] = true then
        match takeV (Lib.trimPrefix ((Lib.trimPrefix l [32]).drop (nameAt (Lib.trimPrefix l [32]))) [61, 34]) with
        | some p => (prmsL n p.2).map fun z => ((bytes ((Lib.trimPrefix l [32]).take (nameAt (Lib.trimPrefix l [32]))), bytes p.1) :: z.1, z.2)
        | none => none
      else none
    else some ([], l)
/-- An element off a text. -/
def elementL (l : List UInt8) : Option (Elm × List UInt8) :=
  match prmsL 64 ((Lib.trimPrefix l [91]).drop (nameAt (Lib.trimPrefix l [91]))) with
  | some p => if Lib.hasPrefix p.2 [93] = true then some ((bytes ((Lib.trimPrefix l [91]).take (nameAt (Lib.trimPrefix l [91]))), p.1), Lib.trimPrefix p.2 [93]) else none
  | none => none
/-- Elements, so many at most, off a text. -/
def elmsL : Nat → List UInt8 → Option (List Elm × List UInt8)
  | 0, l => some ([], l)
  | n + 1, l =>
    if Lib.hasPrefix l [91] = true then
      match elementL l with
      | some p => (elmsL n p.2).map fun z => (p.1 :: z.1, z.2)
      | none => none
    else some ([], l)
def elementsL (l : List UInt8) : Option (List Elm × List UInt8) :=
  if Lib.hasPrefix l [45] = true then some ([], Lib.trimPrefix l [45])
  else match elmsL 64 l with
    | some p => if p.1 = [] then none else some p
    | none => none

theorem cut_at (c : UInt8) (r : List UInt8) : ∀ p : List UInt8, (∀ x ∈ p, [c].contains x = false) → Lib.cut (p ++ c :: r) [c] = (p, r, true)
  | [], _ => cut_here c r
  | x :: p, h => cut_next x c _ _ _ (by have := h x (by simp); simpa using this) (cut_at c r p fun y hy => h y (by simp [hy]))
theorem until_at (c : UInt8) (p r : List UInt8) (h : ∀ x ∈ p, [c].contains x = false) : untilL [c] (p ++ c :: r, true) = (p, r, true) := by
  unfold untilL; rw [show ((p ++ c :: r, true) : St).1 = p ++ c :: r from rfl, cut_at c r p h]; rfl
theorem told_at (p r : List UInt8) (h : ∀ x ∈ p, [32].contains x = false) (h0 : p ≠ []) : toldL (p ++ 32 :: r, true) = (if p = [45] then [] else p, r, true) := by
  unfold toldL
  rw [until_at 32 p r h]
  simp [h0]
theorem or_told {s : ByteArray} {m : Int} (h : wordB s.data.toList m = true) : (orB s).data.toList ≠ [] ∧ (if (orB s).data.toList = [45] then [] else (orB s).data.toList) = s.data.toList := by
  have hz := list_size s
  by_cases h0 : s.size = 0
  · have e : orB s = bytes [45] := by unfold orB; rw [if_pos h0]
    have hl : s.data.toList = [] := List.eq_nil_of_length_eq_zero (by omega)
    rw [e, bytes_list, hl]
    simp
  · have e : orB s = s := by unfold orB; rw [if_neg h0]
    have hl : s.data.toList ≠ [] := fun hn => h0 (by rw [← hz, hn]; rfl)
    rw [e]
    refine ⟨hl, ?_⟩
    unfold wordB at h
    rw [Bool.or_eq_true, Bool.and_eq_true] at h
    rcases h with h | ⟨h, _⟩
    · exact absurd (of_decide_eq_true h) hl
    · rw [if_neg]
      intro h45
      rw [h45] at h
      revert h
      decide
theorem told_or {s : ByteArray} {m : Int} (h : wordB s.data.toList m = true) (r : List UInt8) : toldL ((orB s).data.toList ++ 32 :: r, true) = (s.data.toList, r, true) := by
  rw [told_at _ _ (or_no32 h) (or_told h).1, (or_told h).2]
/-- A right event's text, part by part. -/
theorem printT_parts (g f : Int) (T : List UInt8) (ho ap pr id : ByteArray) (da : List Elm) (tx : ByteArray) :
    printT g f T ho ap pr id da tx = 60 :: (Lib.decDigits (8 * f + g).toNat ++ 62 :: (49 :: 32 :: (T ++ 32 :: ((orB ho).data.toList ++ 32 :: ((orB ap).data.toList ++ 32 :: ((orB pr).data.toList ++ 32 :: ((orB id).data.toList ++ 32 :: ((if da = [] then [45] else elmsT da) ++ behindT tx.data.toList)))))))) := by
  unfold printT
  simp [flatL, bytes]
end Go.Proofs.YtnaijahhogndjaaGreatDoor
