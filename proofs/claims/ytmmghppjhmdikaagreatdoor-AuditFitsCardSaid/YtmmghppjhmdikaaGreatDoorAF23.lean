/- The texts ValText, ParseLists, one behind the other. -/
import Derived.Test.YtmmghppjhmdikaaGreatDoorAF35
import Derived.Test.YtmmghppjhmdikaaGreatDoorAF15
import Derived.Test.YtmmghppjhmdikaaGreatDoorAF14
import Derived.Test.YtmmghppjhmdikaaGreatDoorAF7
import Derived.Test.YtmmghppjhmdikaaGreatDoorAF22
/- What sysl.Parse answers of the text of an event that has nothing but one element with one parameter: the event, if its value is valid; else nothing. -/
namespace Go.Proofs.YtmmghppjhmdikaaGreatDoor
open Go.ChangeShapes Go.WideShapes Go.ChangeAt Go.RowKit

theorem cut_here (c : UInt8) (r : List UInt8) : Lib.cut (c :: r) [c] = ([], r, true) := by
  have h : Lib.index (c :: r) [c] = 0 := by unfold Lib.index; simp [List.isPrefixOf]
  unfold Lib.cut
  rw [h, if_pos (by decide)]
  rfl
theorem cut_next (x c : UInt8) (r p t : List UInt8) (hx : x ≠ c) (h : Lib.cut r [c] = (p, t, true)) : Lib.cut (x :: r) [c] = (x :: p, t, true) := by
  unfold Lib.cut at h
  by_cases hi : 0 ≤ Lib.index r [c]
  · rw [if_pos hi] at h
    have e : Lib.index (x :: r) [c] = Lib.index r [c] + 1 := by
      rw [Lib.index]
      simp [List.isPrefixOf, Ne.symm hx]
      omega
    obtain ⟨h1, h2⟩ := Prod.mk.inj h
    obtain ⟨h2, _⟩ := Prod.mk.inj h2
    have en : (Lib.index r [c] + 1).toNat = (Lib.index r [c]).toNat + 1 := by omega
    unfold Lib.cut
    rw [e, if_pos (by omega), en, ← h1, ← h2]
    simp
  · rw [if_neg hi] at h
    simp at h
theorem until_here (c : UInt8) (r : List UInt8) : untilL [c] (c :: r, true) = ([], r, true) := by
  unfold untilL; rw [cut_here]; rfl
theorem until_one (x c : UInt8) (r : List UInt8) (hx : x ≠ c) : untilL [c] (x :: c :: r, true) = ([x], r, true) := by
  unfold untilL; rw [cut_next x c _ [] r hx (cut_here c r)]; rfl
theorem told_none (r : List UInt8) : toldL (45 :: 32 :: r, true) = ([], r, true) := by
  unfold toldL; rw [until_one 45 32 r (by decide)]; rfl
/-- The one element: its Id is i, its one parameter's name n. -/
abbrev oneE (v : ByteArray) : List Elm := [(bytes [105], [(bytes [110], v)])]
/-- The text in which a value's text stands. -/
def valT (v : ByteArray) : List UInt8 := 60 :: 48 :: 62 :: 49 :: 32 :: 45 :: 32 :: 45 :: 32 :: 45 :: 32 :: 45 :: 32 :: 45 :: 32 :: (elmsT (oneE v) ++ [])
theorem valT_eq (v : ByteArray) : valT v = [60, 48, 62, 49, 32, 45, 32, 45, 32, 45, 32, 45, 32, 45, 32, 91, 105, 32, 110, 61, 34] ++ valueL v.data.toList ++ [34, 93] := by
  simp [valT, elmsT, elmT, prmsT, prmT, bytes]
theorem valT_length (v : ByteArray) : (valT v).length = (valueL v.data.toList).length + 23 := by
  rw [valT_eq]; simp
theorem one_fits (v : ByteArray) (hv : v.size ≤ 1048576) : ElmsFit (oneE v) := by
  refine ⟨show (1 : Nat) ≤ 17592186044416 by decide, fun e he => ?_⟩
  obtain rfl : e = _ := by simpa using he
  refine ⟨show (1 : Nat) ≤ 140737488355328 by decide, show (1 : Nat) ≤ 17592186044416 by decide, fun p hp => ?_⟩
  obtain rfl : p = _ := by simpa using hp
  exact ⟨show (1 : Nat) ≤ 140737488355328 by decide, by simp only; omega⟩
theorem one_good (v : ByteArray) : ∀ e ∈ oneE v, elmGood e := by
  intro e he
  obtain rfl : e = _ := by simpa using he
  refine ⟨show nameB (bytes [105]).data.toList = true by decide, fun p hp => ?_, show (1 : Nat) ≤ 64 by decide⟩
  obtain rfl : p = _ := by simpa using hp
  show nameB (bytes [110]).data.toList = true
  decide
theorem one_right (v : ByteArray) : rightE ⟨0, 0, false, 0, bytes [], bytes [], bytes [], bytes [], oneE v, bytes []⟩ = if Lib.validD v.data.toList = true then 0 else 3 := by
  have hw : wordsB ⟨0, 0, false, 0, bytes [], bytes [], bytes [], bytes [], oneE v, bytes []⟩ = true := rfl
  have hd : dataB (oneE v) = Lib.validD v.data.toList := by
    have n1 : nameB (bytes [105]).data.toList = true := by decide
    have n2 : nameB (bytes [110]).data.toList = true := by decide
    have hp : ([((bytes [110], v) : Prm)].any wrongB) = !(Lib.validD v.data.toList) := by
      show (wrongB (bytes [110], v) || false) = _
      unfold wrongB
      rw [n2]
      simp
    unfold dataB
    show ((okE (bytes [105], [(bytes [110], v)]) && true) && _) = _
    unfold okE
    simp only [n1, hp]
    simp
  have hv0 : Lib.validD (bytes []).data.toList = true := rfl
  have ht : timeB false 0 = true := by decide
  unfold rightE
  rw [if_neg (by intro h; exact h ⟨⟨Int.le_refl 0, show (0 : Int) ≤ 7 by decide⟩, ⟨Int.le_refl 0, show (0 : Int) ≤ 23 by decide⟩, ht⟩)]
  simp only [hw, hd, hv0]
  cases hc : Lib.validD v.data.toList with
  | true => rfl
  | false => rfl
theorem one_get (v : ByteArray) : getL (oneE v) (bytes [105]) (bytes [110]) = (v, true) := by
  have h1 : isIdB (bytes [105]) (bytes [105], [(bytes [110], v)]) = true := decide_eq_true rfl
  have h2 : isNmB (bytes [110]) (bytes [110], v) = true := decide_eq_true rfl
  simp [getL, oneE, List.findIdx_cons, h1, h2]
section
variable (v : ByteArray) (w : World) (hS : Std w) (hm : Max w) (hv : v.size ≤ 1048576)
include hv
theorem val_len : (valT v).length ≤ 16777216 := by
  rw [valT_length]
  have := (valueL_length v.data.toList).2
  rw [list_size] at this
  omega
theorem val_elms (W : World) : Calls Tryz.prog 33 #[.string (bytes (elmsT (oneE v) ++ []))] W (ElmsAns W (oneE v) []) := by
  refine elements_good (oneE v) [] W (by simp) (show (1 : Nat) ≤ 64 by decide) (one_good v) (fun _ => rfl) ?_
  have h := val_len v hv
  unfold valT at h
  simp only [List.length_cons] at h
  omega
include hS hm
theorem val_good (hr : Lib.validD v.data.toList = true) : Calls Tryz.prog 16 #[.string (bytes (valT v))] w (GoodAns 0 0 false 0 [] [] [] [] [] (oneE v) w) :=
  parse_good (valT v) _ _ _ _ _ _ _ _ [] [48] [] [] [] [] [] [] 0 0 0 false (oneE v) w hS hm (val_len v hv) (until_here 60 _) (until_one 48 62 _ (by decide)) (until_one 49 32 _ (by decide)) (told_none _) (told_none _) (told_none _) (told_none _) (told_none _)
    (fun W _ _ => origin_0 W)
    (fun W _ _ => (moment_none W).mono fun e w' ⟨h1, h2⟩ => ⟨h1, h2 ▸ Below.refl _ _⟩)
    (fun W _ _ => val_elms v hv W)
    (fun W _ _ => (behind_any [] W).mono fun e w' ⟨h1, h2⟩ => ⟨h1, h2 ▸ Below.refl _ _⟩)
    (one_fits v hv) (by decide) (by rw [one_right, if_pos hr])
theorem val_bad (hr : Lib.validD v.data.toList = false) : Calls Tryz.prog 16 #[.string (bytes (valT v))] w (BadAns w) :=
  parse_bad (valT v) _ _ _ _ _ _ _ _ [] [48] [] [] [] [] [] [] 0 0 0 false (oneE v) w hS hm (val_len v hv) (until_here 60 _) (until_one 48 62 _ (by decide)) (until_one 49 32 _ (by decide)) (told_none _) (told_none _) (told_none _) (told_none _) (told_none _)
    (fun W _ _ => origin_0 W)
    (fun W _ _ => (moment_none W).mono fun e w' ⟨h1, h2⟩ => ⟨h1, h2 ▸ Below.refl _ _⟩)
    (fun W _ _ => val_elms v hv W)
    (fun W _ _ => (behind_any [] W).mono fun e w' ⟨h1, h2⟩ => ⟨h1, h2 ▸ Below.refl _ _⟩)
    (one_fits v hv) (by decide) 3 (by rw [one_right, if_neg (by rw [hr]; decide)]) (by decide)
end
end Go.Proofs.YtmmghppjhmdikaaGreatDoor
/- A text's event, as a list tells it: what sysl.Parse takes off a text, part by part; and that a right event's text tells it again. -/
namespace Go.Proofs.YtmmghppjhmdikaaGreatDoor
open Go.ChangeShapes Go.WideShapes Go.ChangeAt Go.RowKit

/-- Parameters, so many at most, off a text. -/
def prmsL : Nat → List UInt8 → Option (List Prm × List UInt8)
  | 0, l => some ([], l)
  | n + 1, l =>
    if Lib.hasPrefix l [32] = true then
      if Lib.hasPrefix ((Lib.trimPrefix l [32]).drop (nameAt (Lib.trimPrefix l [32]))) [61, 34] = true then
        match takeV (Lib.trimPrefix ((Lib.trimPrefix l [32]).drop (nameAt (Lib.trimPrefix l [32]))) [61, 34]) with
        | some p => (prmsL n p.2).map fun z => ((bytes ((Lib.trimPrefix l [32]).take (nameAt (Lib.trimPrefix l [32]))), bytes p.1) :: z.1, z.2)
        | none => none
      else none
    else some ([], l)
/-- An element off a text. -/
def elementL (l : List UInt8) : Option (Elm × List UInt8) :=
  match prmsL 64 ((Lib.trimPrefix l [91]).drop (nameAt (Lib.trimPrefix l [91]))) with
  | some p => if Lib.hasPrefix p.2 [93] = true then some ((bytes ((Lib.trimPrefix l [91]).take (nameAt (Lib.trimPrefix l [91]))), p.1), Lib.trimPrefix p.2 [93]) else none
  | none => none
/-- Elements, so many at most, off a text. -/
def elmsL : Nat → List UInt8 → Option (List Elm × List UInt8)
  | 0, l => some ([], l)
  | n + 1, l =>
    if Lib.hasPrefix l [91] = true then
      match elementL l with
      | some p => (elmsL n p.2).map fun z => (p.1 :: z.1, z.2)
      | none => none
    else some ([], l)
def elementsL (l : List UInt8) : Option (List Elm × List UInt8) :=
  if Lib.hasPrefix l [45] = true then some ([], Lib.trimPrefix l [45])
  else match elmsL 64 l with
    | some p => if p.1 = [] then none else some p
    | none => none

theorem cut_at (c : UInt8) (r : List UInt8) : ∀ p : List UInt8, (∀ x ∈ p, [c].contains x = false) → Lib.cut (p ++ c :: r) [c] = (p, r, true)
  | [], _ => cut_here c r
  | x :: p, h => cut_next x c _ _ _ (by have := h x (by simp); simpa using this) (cut_at c r p fun y hy => h y (by simp [hy]))
theorem until_at (c : UInt8) (p r : List UInt8) (h : ∀ x ∈ p, [c].contains x = false) : untilL [c] (p ++ c :: r, true) = (p, r, true) := by
  unfold untilL; rw [show ((p ++ c :: r, true) : St).1 = p ++ c :: r from rfl, cut_at c r p h]; rfl
theorem told_at (p r : List UInt8) (h : ∀ x ∈ p, [32].contains x = false) (h0 : p ≠ []) : toldL (p ++ 32 :: r, true) = (if p = [45] then [] else p, r, true) := by
  unfold toldL
  rw [until_at 32 p r h]
  simp [h0]
theorem or_told {s : ByteArray} {m : Int} (h : wordB s.data.toList m = true) : (orB s).data.toList ≠ [] ∧ (if (orB s).data.toList = [45] then [] else (orB s).data.toList) = s.data.toList := by
  have hz := list_size s
  by_cases h0 : s.size = 0
  · have e : orB s = bytes [45] := by unfold orB; rw [if_pos h0]
    have hl : s.data.toList = [] := List.eq_nil_of_length_eq_zero (by omega)
    rw [e, bytes_list, hl]
    simp
  · have e : orB s = s := by unfold orB; rw [if_neg h0]
    have hl : s.data.toList ≠ [] := fun hn => h0 (by rw [← hz, hn]; rfl)
    rw [e]
    refine ⟨hl, ?_⟩
    unfold wordB at h
    rw [Bool.or_eq_true, Bool.and_eq_true] at h
    rcases h with h | ⟨h, _⟩
    · exact absurd (of_decide_eq_true h) hl
    · rw [if_neg]
      intro h45
      rw [h45] at h
      revert h
      decide
theorem told_or {s : ByteArray} {m : Int} (h : wordB s.data.toList m = true) (r : List UInt8) : toldL ((orB s).data.toList ++ 32 :: r, true) = (s.data.toList, r, true) := by
  rw [told_at _ _ (or_no32 h) (or_told h).1, (or_told h).2]
/-- A right event's text, part by part. -/
theorem printT_parts (g f : Int) (T : List UInt8) (ho ap pr id : ByteArray) (da : List Elm) (tx : ByteArray) :
    printT g f T ho ap pr id da tx = 60 :: (Lib.decDigits (8 * f + g).toNat ++ 62 :: (49 :: 32 :: (T ++ 32 :: ((orB ho).data.toList ++ 32 :: ((orB ap).data.toList ++ 32 :: ((orB pr).data.toList ++ 32 :: ((orB id).data.toList ++ 32 :: ((if da = [] then [45] else elmsT da) ++ behindT tx.data.toList)))))))) := by
  unfold printT
  simp [flatL, bytes]
end Go.Proofs.YtmmghppjhmdikaaGreatDoor
