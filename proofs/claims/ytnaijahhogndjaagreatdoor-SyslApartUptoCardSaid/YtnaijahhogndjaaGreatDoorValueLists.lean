/- Values and their texts, as lists: a value's text is parsed as the value; two values have one text just if they are the same; how much longer it is. -/
import Derived.Test.YtnaijahhogndjaaGreatDoorTakes
namespace Go.Proofs.YtnaijahhogndjaaGreatDoor

theorem takeV_cons2 (c d : UInt8) (r : List UInt8) : takeV (c :: d :: r) = if c = 34 then some ([], d :: r) else if c = 93 then none else
      if c = 92 ∧ marked d = true then (takeV r).map fun p => (d :: p.1, p.2)
      else (takeV (d :: r)).map fun p => (c :: p.1, p.2) := by rw [takeV]
theorem marked_iff (c : UInt8) : marked c = true ↔ c = 34 ∨ c = 92 ∨ c = 93 := by
  unfold marked; simp [or_assoc]
theorem takeV_value (t : List UInt8) : ∀ a : List UInt8, takeV (valueL a ++ 34 :: t) = some (a, t)
  | [] => by
    show takeV (34 :: t) = _
    cases t <;> rfl
  | c :: a => by
    have ih := takeV_value t a
    have e : valueL (c :: a) = (if marked c = true then [92, c] else [c]) ++ valueL a := rfl
    rw [e]
    by_cases hm : marked c = true
    · rw [if_pos hm]
      show takeV (92 :: c :: (valueL a ++ 34 :: t)) = _
      rw [takeV_cons2, if_neg (by decide), if_neg (by decide), if_pos ⟨rfl, hm⟩, ih]
      rfl
    · rw [if_neg hm]
      have hn := fun h => hm ((marked_iff c).2 h)
      show takeV (c :: (valueL a ++ 34 :: t)) = _
      cases hr : valueL a ++ 34 :: t with
      | nil => exact absurd hr (by simp)
      | cons d r =>
        rw [takeV_cons2, if_neg (fun h => hn (.inl h)), if_neg (fun h => hn (.inr (.inr h))), if_neg (fun h => hn (.inr (.inl h.1))), ← hr, ih]
        rfl
theorem valueL_inj {a b : List UInt8} : valueL a = valueL b ↔ a = b := by
  refine ⟨fun h => ?_, fun h => by rw [h]⟩
  have ha := takeV_value [] a
  rw [h, takeV_value [] b] at ha
  exact (congrArg Prod.fst (Option.some.inj ha)).symm
theorem valueL_count : ∀ a : List UInt8, (valueL a).length = a.length + (a.filter marked).length
  | [] => rfl
  | c :: a => by
    have ih := valueL_count a
    have e : valueL (c :: a) = (if marked c = true then [92, c] else [c]) ++ valueL a := rfl
    rw [e, List.length_append, ih, List.filter_cons]
    split <;> simp <;> omega
end Go.Proofs.YtnaijahhogndjaaGreatDoor
