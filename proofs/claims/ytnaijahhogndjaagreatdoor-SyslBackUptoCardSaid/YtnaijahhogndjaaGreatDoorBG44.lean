/- The text that Print answers of an event: one text. -/
import Derived.Test.YtnaijahhogndjaaGreatDoorBG28
namespace Go.Proofs.YtnaijahhogndjaaGreatDoor
open Go.ChangeShapes Go.WideShapes Go.ChangeAt Go.RowKit

/-- The text that Print answers of an event. -/
def PrintS (e : Ev) (S : ByteArray) : Prop :=
  (rightE e ≠ 0 ∧ S = ⟨#[]⟩) ∨ (rightE e = 0 ∧ ∃ T, TimeIs e.timed e.at' T ∧ S = bytes (printT e.grave e.from' T e.host e.app e.proc e.id e.data e.text))
theorem time_one {td : Bool} {a : Int} {T T' : List UInt8} (h : TimeIs td a T) (h' : TimeIs td a T') : T = T' := by
  rcases h with ⟨e, rfl⟩ | ⟨e, y, m, d, hh, i, s, k, hD, rfl⟩
  · rcases h' with ⟨_, rfl⟩ | ⟨e', _⟩
    · rfl
    · rw [e] at e'; cases e'
  · rcases h' with ⟨e', _⟩ | ⟨_, y', m', d', hh', i', s', k', hD', rfl⟩
    · rw [e] at e'; cases e'
    · obtain ⟨r1, n1⟩ := hD
      obtain ⟨r2, n2⟩ := hD'
      obtain ⟨rfl, rfl, rfl, rfl, rfl, rfl, rfl⟩ := Cal.nanos_inj r1 r2 (n1.trans n2.symm)
      rfl
theorem printS_one {e : Ev} {S S' : ByteArray} (h : PrintS e S) (h' : PrintS e S') : S = S' := by
  rcases h with ⟨h0, rfl⟩ | ⟨h0, T, hT, rfl⟩
  · rcases h' with ⟨_, rfl⟩ | ⟨h1, _⟩
    · rfl
    · exact absurd h1 h0
  · rcases h' with ⟨h1, _⟩ | ⟨_, T', hT', rfl⟩
    · exact absurd h0 h1
    · rw [time_one hT hT']
/-- What sysl.Print answers, at one stroke. -/
theorem printS_any {e : Ev} {w : World} {r : Ending} {w' : World} (h : PrintAns e w r w') : ∃ S, PrintS e S ∧ r = .returned (.tuple #[.string S, .int .i64 (rightE e)]) ∧ Below w.heap.size w w' := by
  obtain ⟨h1 | h1, h2⟩ := h
  · exact ⟨_, .inl ⟨h1.1, rfl⟩, h1.2, h2⟩
  · obtain ⟨h0, T, hT, hr⟩ := h1
    exact ⟨_, .inr ⟨h0, T, hT, rfl⟩, by rw [h0]; exact hr, h2⟩
end Go.Proofs.YtnaijahhogndjaaGreatDoor
