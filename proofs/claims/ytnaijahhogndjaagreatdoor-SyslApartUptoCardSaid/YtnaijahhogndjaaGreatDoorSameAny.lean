/- What the document's own Same answers: are two events the same? -/
import Derived.Test.YtnaijahhogndjaaGreatDoorSame
import Derived.Test.YtnaijahhogndjaaGreatDoorSameNe
import Derived.Test.YtnaijahhogndjaaGreatDoorSameNf
namespace Go.Proofs.YtnaijahhogndjaaGreatDoor
open Go.ChangeShapes Go.WideShapes Go.ChangeAt Go.RowKit

set_option maxRecDepth 100000 in
theorem same_any (x y : Ev) (va vb : Value) (w : World) (hA : ElmsAt w va x.data) (hB : ElmsAt w vb y.data) (hfit : ElmsFit x.data) :
    Calls Tryz.prog 22 #[x.val va, y.val vb] w fun e w' => ∃ b : Bool, e = .returned (.bool b) ∧ (b = true ↔ x = y) ∧ Below w.heap.size w w' := by
  obtain ⟨la, ca, rfl⟩ := hA.shape
  obtain ⟨lb, cb, rfl⟩ := hB.shape
  obtain ⟨g, f, t, a, ho, ap, pr, id, da, tx⟩ := x
  obtain ⟨g', f', t', a', ho', ap', pr', id', db, tx'⟩ := y
  by_cases k0 : g = g'
  case neg => exact (same_ne0 g g' f f' t t' a a' ho ho' ap ap' pr pr' id id' tx tx' la lb _ _ ca cb w k0).mono fun e w' ⟨h1, h2⟩ => ⟨false, h1, ⟨fun h => (by cases h), fun h => absurd (by cases h; rfl) k0⟩, h2⟩
  subst k0
  by_cases k1 : f = f'
  case neg => exact (same_ne1 g f f' t t' a a' ho ho' ap ap' pr pr' id id' tx tx' la lb _ _ ca cb w k1).mono fun e w' ⟨h1, h2⟩ => ⟨false, h1, ⟨fun h => (by cases h), fun h => absurd (by cases h; rfl) k1⟩, h2⟩
  subst k1
  by_cases k2 : t = t'
  case neg => exact (same_ne2 g f t t' a a' ho ho' ap ap' pr pr' id id' tx tx' la lb _ _ ca cb w k2).mono fun e w' ⟨h1, h2⟩ => ⟨false, h1, ⟨fun h => (by cases h), fun h => absurd (by cases h; rfl) k2⟩, h2⟩
  subst k2
  by_cases k3 : a = a'
  case neg => exact (same_ne3 g f t a a' ho ho' ap ap' pr pr' id id' tx tx' la lb _ _ ca cb w k3).mono fun e w' ⟨h1, h2⟩ => ⟨false, h1, ⟨fun h => (by cases h), fun h => absurd (by cases h; rfl) k3⟩, h2⟩
  subst k3
  by_cases k4 : ho = ho'
  case neg => exact (same_ne4 g f t a ho ho' ap ap' pr pr' id id' tx tx' la lb _ _ ca cb w k4).mono fun e w' ⟨h1, h2⟩ => ⟨false, h1, ⟨fun h => (by cases h), fun h => absurd (by cases h; rfl) k4⟩, h2⟩
  subst k4
  by_cases k5 : ap = ap'
  case neg => exact (same_ne5 g f t a ho ap ap' pr pr' id id' tx tx' la lb _ _ ca cb w k5).mono fun e w' ⟨h1, h2⟩ => ⟨false, h1, ⟨fun h => (by cases h), fun h => absurd (by cases h; rfl) k5⟩, h2⟩
  subst k5
  by_cases k6 : pr = pr'
  case neg => exact (same_ne6 g f t a ho ap pr pr' id id' tx tx' la lb _ _ ca cb w k6).mono fun e w' ⟨h1, h2⟩ => ⟨false, h1, ⟨fun h => (by cases h), fun h => absurd (by cases h; rfl) k6⟩, h2⟩
  subst k6
  by_cases k7 : id = id'
  case neg => exact (same_ne7 g f t a ho ap pr id id' tx tx' la lb _ _ ca cb w k7).mono fun e w' ⟨h1, h2⟩ => ⟨false, h1, ⟨fun h => (by cases h), fun h => absurd (by cases h; rfl) k7⟩, h2⟩
  subst k7
  by_cases k8 : tx = tx'
  case neg => exact (same_ne8 g f t a ho ap pr id tx tx' la lb _ _ ca cb w k8).mono fun e w' ⟨h1, h2⟩ => ⟨false, h1, ⟨fun h => (by cases h), fun h => absurd (by cases h; rfl) k8⟩, h2⟩
  subst k8
  refine (same_data g f a t ho ap pr id tx da db la lb ca cb w hA hB hfit).mono fun e w' h => ?_
  obtain ⟨h1, h2⟩ := h
  refine ⟨decide (da = db), h1, ?_, h2⟩
  constructor
  · intro h
    rw [of_decide_eq_true h]
  · intro h
    cases h
    exact decide_eq_true rfl
end Go.Proofs.YtnaijahhogndjaaGreatDoor
