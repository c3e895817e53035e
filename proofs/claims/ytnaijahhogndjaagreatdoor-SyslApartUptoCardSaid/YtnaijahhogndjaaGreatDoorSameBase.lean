/- Small laws for the document's own Same. -/
import Derived.Test.YtnaijahhogndjaaGreatDoorRight
import Derived.Laws.StructEq
import Derived.BigQuiet
import Derived.Deep.QuietTactic
namespace Go.Proofs.YtnaijahhogndjaaGreatDoor
open Go.ChangeShapes Go.WideShapes Go.ChangeAt Go.RowKit

theorem toList_same (s : ByteArray) : (s.toList == s.toList) = true := beq_self_eq_true _
theorem toList_other {s t : ByteArray} (h : s ≠ t) : (s.toList == t.toList) = false := by rw [eq_text]; exact decide_eq_false h
theorem drewN_b (w : World) (n : Nat) : Below w.heap.size w (w.drewN n) := ⟨rfl, rfl, rfl, Nat.le_refl _, fun _ _ => rfl⟩
end Go.Proofs.YtnaijahhogndjaaGreatDoor
