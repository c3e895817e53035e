/- What sysl.Parse answers of the text of an event that has nothing but one element with one parameter: the event, if its value is valid; else nothing. -/
import Derived.Test.YtnaijahhogndjaaGreatDoorBG25
import Derived.Test.YtnaijahhogndjaaGreatDoorBG16
import Derived.Test.YtnaijahhogndjaaGreatDoorBG9
import Derived.Test.YtnaijahhogndjaaGreatDoorBG5
namespace Go.Proofs.YtnaijahhogndjaaGreatDoor
open Go.ChangeShapes Go.WideShapes Go.ChangeAt Go.RowKit

theorem cut_here (c : UInt8) (r : List UInt8) : Lib.cut (c :: r) [c] = ([], r, true) := by
  have h : Lib.index (c :: r) [c] = 0 := by unfold Lib.index; simp [List.isPrefixOf]
  unfold Lib.cut
  rw [h, if_pos (by decide)]
  rfl
theorem cut_next (x c : UInt8) (r p t : List UInt8) (hx : x ≠ c) (h : Lib.cut r [c] = (p, t, true)) : Lib.cut (x :: r) [c] = (x :: p, t, true) := by
  unfold Lib.cut at h
  by_cases hi : 0 ≤ Lib.index r [c]
  · rw [if_pos hi] at h
    have e : Lib.index (x :: r) [c] = Lib.index r [c] + 1 := by
      rw [Lib.index]
      simp [List.isPrefixOf, Ne.symm hx]
      omega
    obtain ⟨h1, h2⟩ := Prod.mk.inj h
    obtain ⟨h2, _⟩ := Prod.mk.inj h2
    have en : (Lib.index r [c] + 1).toNat = (Lib.index r [c]).toNat + 1 := by omega
    unfold Lib.cut
    rw [e, if_pos (by omega), en, ← h1, ← h2]
    simp
  · rw [if_neg hi] at h
    simp at h
theorem until_here (c : UInt8) (r : List UInt8) : untilL [c] (c :: r, true) = ([], r, true) := by
  unfold untilL; rw [cut_here]; rfl
theorem until_one (x c : UInt8) (r : List UInt8) (hx : x ≠ c) : untilL [c] (x :: c :: r, true) = ([x], r, true) := by
  unfold untilL; rw [cut_next x c _ [] r hx (cut_here c r)]; rfl
theorem told_none (r : List UInt8) : toldL (45 :: 32 :: r, true) = ([], r, true) := by
  unfold toldL; rw [until_one 45 32 r (by decide)]; rfl
/-- The one element: its Id is i, its one parameter's name n. -/
abbrev oneE (v : ByteArray) : List Elm := [(bytes [105], [(bytes [110], v)])]
/-- The text in which a value's text stands. -/
def valT (v : ByteArray) : List UInt8 := 60 :: 48 :: 62 :: 49 :: 32 :: 45 :: 32 :: 45 :: 32 :: 45 :: 32 :: 45 :: 32 :: 45 :: 32 :: (elmsT (oneE v) ++ [])
theorem valT_eq (v : ByteArray) : valT v = [60, 48, 62, 49, 32, 45, 32, 45, 32, 45, 32, 45, 32, 45, 32, 91, 105, 32, 110, 61, 34] ++ valueL v.data.toList ++ [34, 93] := by
  simp [valT, elmsT, elmT, prmsT, prmT, bytes]
theorem valT_length (v : ByteArray) : (valT v).length = (valueL v.data.toList).length + 23 := by
  rw [valT_eq]; simp
theorem one_fits (v : ByteArray) (hv : v.size ≤ 1048576) : ElmsFit (oneE v) := by
  refine ⟨show (1 : Nat) ≤ 17592186044416 by decide, fun e he => ?_⟩
  obtain rfl : e = _ := by simpa using he
  refine ⟨show (1 : Nat) ≤ 140737488355328 by decide, show (1 : Nat) ≤ 17592186044416 by decide, fun p hp => ?_⟩
  obtain rfl : p = _ := by simpa using hp
  exact ⟨show (1 : Nat) ≤ 140737488355328 by decide, by simp only; omega⟩
theorem one_good (v : ByteArray) : ∀ e ∈ oneE v, elmGood e := by
  intro e he
  obtain rfl : e = _ := by simpa using he
  refine ⟨show nameB (bytes [105]).data.toList = true by decide, fun p hp => ?_, show (1 : Nat) ≤ 64 by decide⟩
  obtain rfl : p = _ := by simpa using hp
  show nameB (bytes [110]).data.toList = true
  decide
theorem one_right (v : ByteArray) : rightE ⟨0, 0, false, 0, bytes [], bytes [], bytes [], bytes [], oneE v, bytes []⟩ = if Lib.validD v.data.toList = true then 0 else 3 := by
  have hw : wordsB ⟨0, 0, false, 0, bytes [], bytes [], bytes [], bytes [], oneE v, bytes []⟩ = true := rfl
  have hd : dataB (oneE v) = Lib.validD v.data.toList := by
    have n1 : nameB (bytes [105]).data.toList = true := by decide
    have n2 : nameB (bytes [110]).data.toList = true := by decide
    have hp : ([((bytes [110], v) : Prm)].any wrongB) = !(Lib.validD v.data.toList) := by
      show (wrongB (bytes [110], v) || false) = _
      unfold wrongB
      rw [n2]
      simp
    unfold dataB
    show ((okE (bytes [105], [(bytes [110], v)]) && true) && _) = _
    unfold okE
    simp only [n1, hp]
    simp
  have hv0 : Lib.validD (bytes []).data.toList = true := rfl
  have ht : timeB false 0 = true := by decide
  unfold rightE
  rw [if_neg (by intro h; exact h ⟨⟨Int.le_refl 0, show (0 : Int) ≤ 7 by decide⟩, ⟨Int.le_refl 0, show (0 : Int) ≤ 23 by decide⟩, ht⟩)]
  simp only [hw, hd, hv0]
  cases hc : Lib.validD v.data.toList with
  | true => rfl
  | false => rfl
theorem one_get (v : ByteArray) : getL (oneE v) (bytes [105]) (bytes [110]) = (v, true) := by
  have h1 : isIdB (bytes [105]) (bytes [105], [(bytes [110], v)]) = true := decide_eq_true rfl
  have h2 : isNmB (bytes [110]) (bytes [110], v) = true := decide_eq_true rfl
  simp [getL, oneE, List.findIdx_cons, h1, h2]
section
variable (v : ByteArray) (w : World) (hS : Std w) (hm : Max w) (hv : v.size ≤ 1048576)
include hv
theorem val_len : (valT v).length ≤ 16777216 := by
  rw [valT_length]
  have := (valueL_length v.data.toList).2
  rw [list_size] at this
  omega
theorem val_elms (W : World) : Calls Tryz.prog 58 #[.string (bytes (elmsT (oneE v) ++ []))] W (ElmsAns W (oneE v) []) := by
  refine elements_good (oneE v) [] W (by simp) (show (1 : Nat) ≤ 64 by decide) (one_good v) (fun _ => rfl) ?_
  have h := val_len v hv
  unfold valT at h
  simp only [List.length_cons] at h
  omega
include hS hm
theorem val_good (hr : Lib.validD v.data.toList = true) : Calls Tryz.prog 23 #[.string (bytes (valT v))] w (GoodAns 0 0 false 0 [] [] [] [] [] (oneE v) w) :=
  parse_good (valT v) _ _ _ _ _ _ _ _ [] [48] [] [] [] [] [] [] 0 0 0 false (oneE v) w hS hm (val_len v hv) (until_here 60 _) (until_one 48 62 _ (by decide)) (until_one 49 32 _ (by decide)) (told_none _) (told_none _) (told_none _) (told_none _) (told_none _)
    (fun W _ _ => origin_0 W)
    (fun W _ _ => (moment_none W).mono fun e w' ⟨h1, h2⟩ => ⟨h1, h2 ▸ Below.refl _ _⟩)
    (fun W _ _ => val_elms v hv W)
    (fun W _ _ => (behind_any [] W).mono fun e w' ⟨h1, h2⟩ => ⟨h1, h2 ▸ Below.refl _ _⟩)
    (one_fits v hv) (by decide) (by rw [one_right, if_pos hr])
theorem val_bad (hr : Lib.validD v.data.toList = false) : Calls Tryz.prog 23 #[.string (bytes (valT v))] w (BadAns w) :=
  parse_bad (valT v) _ _ _ _ _ _ _ _ [] [48] [] [] [] [] [] [] 0 0 0 false (oneE v) w hS hm (val_len v hv) (until_here 60 _) (until_one 48 62 _ (by decide)) (until_one 49 32 _ (by decide)) (told_none _) (told_none _) (told_none _) (told_none _) (told_none _)
    (fun W _ _ => origin_0 W)
    (fun W _ _ => (moment_none W).mono fun e w' ⟨h1, h2⟩ => ⟨h1, h2 ▸ Below.refl _ _⟩)
    (fun W _ _ => val_elms v hv W)
    (fun W _ _ => (behind_any [] W).mono fun e w' ⟨h1, h2⟩ => ⟨h1, h2 ▸ Below.refl _ _⟩)
    (one_fits v hv) (by decide) 3 (by rw [one_right, if_neg (by rw [hr]; decide)]) (by decide)
end
end Go.Proofs.YtnaijahhogndjaaGreatDoor
