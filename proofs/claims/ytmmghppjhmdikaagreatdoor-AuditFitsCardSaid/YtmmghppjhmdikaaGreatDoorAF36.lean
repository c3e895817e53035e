/- What sysl.dataText answers: the text of elements. -/
import Derived.Test.YtmmghppjhmdikaaGreatDoorAF10
import Derived.Test.YtmmghppjhmdikaaGreatDoorAF35
import Derived.Deep.RegionHeld
import Derived.OrdersHeld
namespace Go.Proofs.YtmmghppjhmdikaaGreatDoor
open Go.ChangeShapes Go.WideShapes Go.ChangeAt Go.RowKit

def prmP (p : Prm) : List ByteArray := [⟨#[32]⟩, p.1, ⟨#[61, 34]⟩, bytes (valueL p.2.data.toList), ⟨#[34]⟩]
def prmsP (ps : List Prm) : List ByteArray := ps.flatMap prmP
def elmP (e : Elm) : List ByteArray := [⟨#[91]⟩, e.1] ++ prmsP e.2 ++ [⟨#[93]⟩]
def elmsP (es : List Elm) : List ByteArray := es.flatMap elmP
theorem prmsP_flat (ps : List Prm) : flatL (prmsP ps) = prmsT ps := by
  induction ps with
  | nil => rfl
  | cons p ps ih =>
    have e1 : prmsP (p :: ps) = prmP p ++ prmsP ps := rfl
    have e2 : prmsT (p :: ps) = prmT p ++ prmsT ps := rfl
    rw [e1, e2, flatL_append, ih]
    simp [flatL, prmP, prmT, bytes]
theorem elmsP_flat (es : List Elm) : flatL (elmsP es) = elmsT es := by
  induction es with
  | nil => rfl
  | cons e es ih =>
    have e1 : elmsP (e :: es) = elmP e ++ elmsP es := rfl
    have e2 : elmsT (e :: es) = elmT e ++ elmsT es := rfl
    rw [e1, e2, flatL_append, ih]
    congr 1
    unfold elmP elmT
    rw [flatL_append, flatL_append, prmsP_flat]
    simp [flatL]
theorem prmsP_length (ps : List Prm) : (prmsP ps).length = 5 * ps.length := by
  induction ps with
  | nil => rfl
  | cons p ps ih =>
    have e1 : prmsP (p :: ps) = prmP p ++ prmsP ps := rfl
    rw [e1, List.length_append, ih]; simp [prmP]; omega
theorem elmP_length (e : Elm) : (elmP e).length = 5 * e.2.length + 3 := by
  unfold elmP; rw [List.length_append, List.length_append, prmsP_length]; simp; omega
theorem elmsP_length (es : List Elm) (h : ∀ e ∈ es, e.2.length ≤ 64) : (elmsP es).length ≤ 323 * es.length := by
  induction es with
  | nil => exact Nat.le_refl _
  | cons e es ih =>
    have e1 : elmsP (e :: es) = elmP e ++ elmsP es := rfl
    rw [e1, List.length_append, elmP_length]
    have h1 := h e (by simp)
    have h2 := ih (fun x hx => h x (by simp [hx]))
    simp only [List.length_cons]
    omega
theorem elmsP_take {es : List Elm} {k : Nat} {e : Elm} (h : es[k]? = some e) : elmsP (es.take (k + 1)) = elmsP (es.take k) ++ elmP e := by
  obtain ⟨hk, hx⟩ := List.getElem?_eq_some_iff.1 h
  rw [List.take_succ_eq_append_getElem hk, hx]; simp [elmsP]
theorem prmsP_take {ps : List Prm} {k : Nat} {p : Prm} (h : ps[k]? = some p) : prmsP (ps.take (k + 1)) = prmsP (ps.take k) ++ prmP p := by
  obtain ⟨hk, hx⟩ := List.getElem?_eq_some_iff.1 h
  rw [List.take_succ_eq_append_getElem hk, hx]; simp [prmsP]
theorem prm_le {ps : List Prm} {p : Prm} (hp : p ∈ ps) : p.2.size ≤ (prmsT ps).length := by
  induction ps with
  | nil => cases hp
  | cons q ps ih =>
    have e2 : prmsT (q :: ps) = prmT q ++ prmsT ps := rfl
    rw [e2, List.length_append]
    rcases List.mem_cons.1 hp with rfl | h
    · have := (valueL_length p.2.data.toList).1
      rw [list_size] at this
      simp [prmT]
      omega
    · have := ih h
      omega
theorem val_le {es : List Elm} {e : Elm} {p : Prm} (he : e ∈ es) (hp : p ∈ e.2) : p.2.size ≤ (elmsT es).length := by
  induction es with
  | nil => cases he
  | cons x es ih =>
    have e2 : elmsT (x :: es) = elmT x ++ elmsT es := rfl
    rw [e2, List.length_append]
    rcases List.mem_cons.1 he with rfl | h
    · have := prm_le hp
      simp [elmT]
      omega
    · have := ih h
      omega
theorem strs_append (a b : List ByteArray) : strs (a ++ b) = strs a ++ strs b := by simp [strs]
theorem grow_cell {W w' : World} {v : Value} {b o : Nat} (hg : W.grownBy w' v.ownBlock) (hb : b < W.heap.size) (hne : ∀ g, v.ownBlock = some g → g ≠ b) : w'.cell? ⟨b, o, none⟩ = W.cell? ⟨b, o, none⟩ :=
  World.cell?_of_block (a := ⟨b, o, none⟩) (hg.block b hb fun he => hne b he.symm rfl)
theorem info9_of : ∃ i, Tryz.prog.info? 9 = some i ∧ i.zero = some (.string ⟨#[]⟩) ∧ i.size = 1 ∧ i.bytes = 16 := by
  have h := info9
  cases hi : Tryz.prog.info? 9 with
  | none => rw [hi] at h; cases h
  | some j => rw [hi] at h; simp only [Option.map_some, Option.some.injEq, Prod.mk.injEq] at h; exact ⟨j, rfl, h.1, h.2.1, h.2.2⟩
end Go.Proofs.YtmmghppjhmdikaaGreatDoor
