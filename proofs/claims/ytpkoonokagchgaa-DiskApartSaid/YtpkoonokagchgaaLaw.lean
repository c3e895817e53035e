/- A disk in a box, for the statements' walks. No conditions but what each theorem says. -/
import Derived.Test.YtpkoonokagchgaaShown
import Derived.Test.YtpkoonokagchgaaOpen
import Derived.Test.YtpkoonokagchgaaRefSame
import Derived.Test.YtpkoonokagchgaaRefRight
namespace Go.Proofs.Ytpkoonokagchgaa
open Go.ChangeShapes Go.WideShapes Go.ChangeAt Go.RowKit Go.Joins

theorem few_is (d : Dk) : ∃ F : Bool, F = true ↔ d.ks.length ≤ 40 ∧ d.ws.length ≤ 40 ∧ Ok d := by
  by_cases h : d.ks.length ≤ 40 ∧ d.ws.length ≤ 40 ∧ Ok d
  · exact ⟨true, by simp [h]⟩
  · exact ⟨false, by simp [h]⟩

/-- A disk in a box, its rows where the box says. -/
structure DB (W : World) (r : Nat) (d : Dk) (sz : Int) (n m : Nat) (kA : Option Addr) (kc : Nat) (wA : Option Addr) (wc : Nat) (off : Bool) : Prop where
  x : Bx W r 25 #[.int .i64 sz, .slice kA n kc, .slice wA m wc, .bool off]
  a : At W d kA kc wA wc
theorem DB.below {W W' : World} {r : Nat} {d : Dk} {sz : Int} {n m : Nat} {kA : Option Addr} {kc : Nat} {wA : Option Addr} {wc : Nat} {off : Bool} (h : DB W r d sz n m kA kc wA wc off) (hb : Below W.heap.size W W') : DB W' r d sz n m kA kc wA wc off := ⟨h.x.below hb, h.a.below hb⟩
theorem DB.new {W : World} {d : Dk} {kA : Option Addr} {kc : Nat} {wA : Option Addr} {wc : Nat} (h : At W d kA kc wA wc) (sz : Int) (n m : Nat) (off : Bool) : DB (W.alloc (.cells #[.int .i64 sz, .slice kA n kc, .slice wA m wc, .bool off] 25)) W.heap.size d sz n m kA kc wA wc off :=
  ⟨Bx.new W 25 _, h.below (alloc_below W _)⟩
theorem DB.four {W : World} {r : Nat} {d : Dk} {sz : Int} {n m : Nat} {kA : Option Addr} {kc : Nat} {wA : Option Addr} {wc : Nat} {off : Bool} (h : DB W r d sz n m kA kc wA wc off) :
    W.cell? ⟨r, 0, none⟩ = some (.int .i64 sz) ∧ W.cell? ⟨r, 1, none⟩ = some (.slice kA n kc) ∧ W.cell? ⟨r, 2, none⟩ = some (.slice wA m wc) ∧ W.cell? ⟨r, 3, none⟩ = some (.bool off) := h.x.four
end Go.Proofs.Ytpkoonokagchgaa
