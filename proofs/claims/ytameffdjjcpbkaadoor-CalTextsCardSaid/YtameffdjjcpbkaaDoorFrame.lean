/- A date among the arguments opened to its eight numbers; the listed table's cells out of the condition; the heap that the program's own initialisers leave meets it. -/
import Derived.Test.YtameffdjjcpbkaaDoorRows
import Derived.Test.YtameffdjjcpbkaaDoorCards
import Derived.Test.YtameffdjjcpbkaaDoorTie
import Derived.Test.YtameffdjjcpbkaaDoorBase
import Derived.ProofKit
import Derived.LaidMore
import Derived.OpenShut
import Derived.ShutString
import Derived.ChangeOld
import Derived.Below
import Derived.Lib.SmallJoins
import Derived.Lib.LaidTab
import Derived.Stop.Joined
import Derived.SevenTiedAt
namespace Go.Proofs.YtameffdjjcpbkaaDoor
open Go.Joins Go.Deep Go.ChangeShapes Go.WideShapes Go.ChangeAt Go.RowKit

section
variable {H : Type} {enc : TypeId × Value → H} {P : Program} {w : World} {base : Nat} {spare : Nat → Bool} {held : Bool}
/-- A struct of eight integers, by value. -/
theorem open_ints8 {r : Reach} {b0 : Nat} {t e : TypeId} {f0 f1 f2 f3 f4 f5 f6 f7 : Field} {v : Value} {d : DataW H} {p : List MemPlace} (hs : P.underlying t = some (.struct #[f0, f1, f2, f3, f4, f5, f6, f7])) (hone : oneCellFields P #[f0, f1, f2, f3, f4, f5, f6, f7] = true) (hC : P.cellsOf t = 8)
    (he : P.underlying e = some (.int .i64)) (t0 : f0.type = e) (t1 : f1.type = e) (t2 : f2.type = e) (t3 : f3.type = e) (t4 : f4.type = e) (t5 : f5.type = e) (t6 : f6.type = e) (t7 : f7.type = e)
    (hv : Value.okWide P w r b0 t v) (h : DataW.Trod enc P w base spare held t v d p) :
    ∃ a0 a1 a2 a3 a4 a5 a6 a7 : Int, v = .agg #[.int .i64 a0, .int .i64 a1, .int .i64 a2, .int .i64 a3, .int .i64 a4, .int .i64 a5, .int .i64 a6, .int .i64 a7] ∧
      d = .agg [.lit (.int .i64 a0), .lit (.int .i64 a1), .lit (.int .i64 a2), .lit (.int .i64 a3), .lit (.int .i64 a4), .lit (.int .i64 a5), .lit (.int .i64 a6), .lit (.int .i64 a7)] ∧ p = [] ∧
      (Lit.int .i64 a0).wf = true ∧ (Lit.int .i64 a1).wf = true ∧ (Lit.int .i64 a2).wf = true ∧ (Lit.int .i64 a3).wf = true ∧ (Lit.int .i64 a4).wf = true ∧ (Lit.int .i64 a5).wf = true ∧ (Lit.int .i64 a6).wf = true ∧ (Lit.int .i64 a7).wf = true := by
  obtain ⟨cs, rfl, hsz⟩ := okWide_struct hs hv
  obtain ⟨l⟩ := cs
  match l, hsz.trans hC with
  | [c0, c1, c2, c3, c4, c5, c6, c7], _ =>
    obtain ⟨fuel, hf⟩ := h
    obtain ⟨xs, n, _, hx, _, hlen, hg⟩ := DataW.trod_struct hs hf
    obtain ⟨o0, k0⟩ := hone_of hone 0 f0 rfl
    obtain ⟨o1, _⟩ := hone_of hone 1 f1 rfl
    obtain ⟨o2, _⟩ := hone_of hone 2 f2 rfl
    obtain ⟨o3, _⟩ := hone_of hone 3 f3 rfl
    obtain ⟨o4, _⟩ := hone_of hone 4 f4 rfl
    obtain ⟨o5, _⟩ := hone_of hone 5 f5 rfl
    obtain ⟨o6, _⟩ := hone_of hone 6 f6 rfl
    obtain ⟨o7, _⟩ := hone_of hone 7 f7 rfl
    match xs, hlen with
    | [y0, y1, y2, y3, y4, y5, y6, y7], _ =>
      simp only [Prod.mk.injEq] at hx
      have ke : P.cellsOf e = 1 := by rw [← t0]; exact k0
      have g0 : DataW.trod enc P w base spare held n e [c0] = some y0 := by simpa [Value.cells, o0, ke, t0] using hg 0 f0 rfl
      have g1 : DataW.trod enc P w base spare held n e [c1] = some y1 := by simpa [Value.cells, o1, ke, t1] using hg 1 f1 rfl
      have g2 : DataW.trod enc P w base spare held n e [c2] = some y2 := by simpa [Value.cells, o2, ke, t2] using hg 2 f2 rfl
      have g3 : DataW.trod enc P w base spare held n e [c3] = some y3 := by simpa [Value.cells, o3, ke, t3] using hg 3 f3 rfl
      have g4 : DataW.trod enc P w base spare held n e [c4] = some y4 := by simpa [Value.cells, o4, ke, t4] using hg 4 f4 rfl
      have g5 : DataW.trod enc P w base spare held n e [c5] = some y5 := by simpa [Value.cells, o5, ke, t5] using hg 5 f5 rfl
      have g6 : DataW.trod enc P w base spare held n e [c6] = some y6 := by simpa [Value.cells, o6, ke, t6] using hg 6 f6 rfl
      have g7 : DataW.trod enc P w base spare held n e [c7] = some y7 := by simpa [Value.cells, o7, ke, t7] using hg 7 f7 rfl
      obtain ⟨a0, e0, d0, w0⟩ := DataW.trod_int he g0
      obtain ⟨a1, e1, d1, w1⟩ := DataW.trod_int he g1
      obtain ⟨a2, e2, d2, w2⟩ := DataW.trod_int he g2
      obtain ⟨a3, e3, d3, w3⟩ := DataW.trod_int he g3
      obtain ⟨a4, e4, d4, w4⟩ := DataW.trod_int he g4
      obtain ⟨a5, e5, d5, w5⟩ := DataW.trod_int he g5
      obtain ⟨a6, e6, d6, w6⟩ := DataW.trod_int he g6
      obtain ⟨a7, e7, d7, w7⟩ := DataW.trod_int he g7
      simp at e0 e1 e2 e3 e4 e5 e6 e7
      subst e0 e1 e2 e3 e4 e5 e6 e7
      subst d0 d1 d2 d3 d4 d5 d6 d7
      exact ⟨a0, a1, a2, a3, a4, a5, a6, a7, rfl, by simpa using hx.1, by simpa using hx.2, w0, w1, w2, w3, w4, w5, w6, w7⟩
end

/-! ### the listed table -/
def laid1 : List (String × DataW Unit) := [("tabulary/cal.lengths", Rows.laid_tabulary_cal_lengths)]
theorem own : ownKnob Tryd.prog.godebug = none := by kernel_rfl
theorem laidOut : laidOutB Tryd.prog = true := by kernel_rfl
theorem gLen : Tryd.prog.globalNamed "tabulary/cal.lengths" = some 0 := by kernel_rfl
theorem tLen : (Tryd.prog.globals[0]?).map (·.type) = some 55 := by kernel_rfl
theorem cells3 : Tryd.prog.cellsOf 3 = 1 := by kernel_rfl
theorem cells55 : Tryd.prog.cellsOf 55 = 12 := by kernel_rfl
theorem cells23 : Tryd.prog.cellsOf 23 = 8 := by kernel_rfl
theorem tab_of_is {W : World} (h : Lib.TabIs Tryd.prog W "tabulary/cal.lengths" .i64 lens) : Tab W := by
  have hc : ∀ i : Nat, i < 12 → W.cell? ⟨0, i, none⟩ = some (.int .i64 (lens.getD i 0)) := fun i hi => h.cell gLen i hi
  refine ⟨?_, hc⟩
  have h0 := hc 0 (by omega)
  by_cases hs : 0 < W.heap.size
  · exact hs
  · rw [World.cell?] at h0
    have : W.heap[0]? = none := Array.getElem?_eq_none (by omega)
    simp [this] at h0
theorem tab_of_laid {W : World} (h : laidMetH Tryd.prog laid1 W) : Tab W := by
  rw [MakeChecks.laidMetH_plain _ _ _ (by kernel_rfl)] at h
  exact tab_of_is (Lib.tabIs_of_head (rest := []) gLen tLen Tryd.underlying55 Tryd.underlying3 cells3 cells55 h)
theorem door_met (os : Os) (args : Array Value) : laidMetH Tryd.prog laid1 ((World.doorLaid Tryd.prog 400 os).forCall (fun _ _ => 0) ⟨#[], args, []⟩).memory :=
  laidMetH_of_parts3 (fuel := 8) (laidMet_of_run' 8 (by kernel_rfl) (by kernel_rfl)) (by kernel_rfl) (by kernel_rfl)
end Go.Proofs.YtameffdjjcpbkaaDoor
