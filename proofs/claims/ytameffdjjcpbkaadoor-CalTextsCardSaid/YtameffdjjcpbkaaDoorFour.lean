/- The four listed tables out of the condition; the heap that the program's own initialisers leave meets it. -/
import Derived.Test.YtameffdjjcpbkaaDoorFrame
import Derived.Test.YtameffdjjcpbkaaDoorPrinted
import Derived.Stop.LaidErr
namespace Go.Proofs.YtameffdjjcpbkaaDoor
open Go.Joins Go.Deep Go.ChangeShapes Go.WideShapes Go.ChangeAt Go.RowKit

def laid4 : List (String × DataW Unit) := [("math/bits.deBruijn32tab", Rows.laid_math_bits_deBruijn32tab), ("math/bits.deBruijn64tab", Rows.laid_math_bits_deBruijn64tab), ("internal/strconv.uint64pow10", Rows.laid_internal_strconv_uint64pow10), ("tabulary/cal.lengths", Rows.laid_tabulary_cal_lengths)]
theorem tPow : (Tryd.prog.globals[1]?).map (·.type) = some 98 := by kernel_rfl
theorem cells57 : Tryd.prog.cellsOf 57 = 1 := by kernel_rfl
theorem cells98 : Tryd.prog.cellsOf 98 = 20 := by kernel_rfl
theorem pow_datum : (Rows.laid_internal_strconv_uint64pow10 : DataW Unit) = Lib.tabData .u64 Lib.pow10Tab := by kernel_rfl
theorem pow_of_is {W : World} (h : Lib.TabIs Tryd.prog W "internal/strconv.uint64pow10" .u64 Lib.pow10Tab) : Pow W := by
  refine ⟨?_, h⟩
  have h0 := h.cell gPow 0 (by rw [Lib.pow10Tab_length]; omega)
  by_cases hs : 1 < W.heap.size
  · exact hs
  · rw [World.cell?] at h0
    have : W.heap[1]? = none := Array.getElem?_eq_none (by omega)
    simp [this] at h0
theorem tabs_of_laid {W : World} (h : laidMetH Tryd.prog laid4 W) : Tab W ∧ Pow W := by
  rw [MakeChecks.laidMetH_plain _ _ _ (by kernel_rfl)] at h
  have h3 : laidMet Tryd.prog [("internal/strconv.uint64pow10", Rows.laid_internal_strconv_uint64pow10), ("tabulary/cal.lengths", Rows.laid_tabulary_cal_lengths)] W := laidMet.tail (laidMet.tail h)
  refine ⟨tab_of_is (Lib.tabIs_of_head (rest := []) gLen tLen Tryd.underlying55 Tryd.underlying3 cells3 cells55 (laidMet.tail h3)), ?_⟩
  rw [pow_datum] at h3
  exact pow_of_is (Lib.tabIs_of_head gPow tPow Tryd.underlying98 Tryd.underlying57 cells57 cells98 h3)
theorem door_met4 (os : Os) (args : Array Value) : laidMetH Tryd.prog laid4 ((World.doorLaid Tryd.prog 400 os).forCall (fun _ _ => 0) ⟨#[], args, []⟩).memory :=
  laidMetH_of_parts3 (fuel := 8) (laidMet_of_run' 8 (by kernel_rfl) (by kernel_rfl)) (by kernel_rfl) (by kernel_rfl)
end Go.Proofs.YtameffdjjcpbkaaDoor
