/- A made row of bytes as a text: bytes of 0. -/
import Derived.Test.YtpkoonokagchgaaNew
import Derived.Test.YtpkoonokagchgaaConv
import Derived.Deep.OwnRows
namespace Go.Proofs.Ytpkoonokagchgaa
open Go.ChangeShapes Go.WideShapes Go.ChangeAt Go.RowKit Go.Shelf

theorem info5 : (Try.prog.info? 5).map (fun i => (i.zero, i.size, i.bytes)) = some (some (.int .u8 0), 1, 1) := by kernel_rfl

theorem strOf_zeros (n : Nat) : strOfNums (List.replicate n 0) = zeros n := by
  have := str_nums (zeros n)
  have e : (zeros n).data.toList.map (fun x => (x.toNat : Int)) = List.replicate n 0 := by simp [zeros]
  rw [e] at this
  exact this

theorem made_row (n : Nat) (h : n ≤ 1000000) (W : World) : ∃ W1, (Instr.makeSlice 61 (.int .i64 (n : Int)) (.int .i64 (n : Int))).run Try.prog W = .ok (.slice (some ⟨W.heap.size, 0, none⟩) n n) W1 ∧
    (convert 61 9 (.slice (some ⟨W.heap.size, 0, none⟩) n n)).run Try.prog W1 = .ok (.string (zeros n)) W1 ∧ Below W.heap.size W W1 := by
  refine ⟨_, run_make_row' (P := Try.prog) 61 5 (.int .u8 0) 1 Try.underlying61 info5 rfl .i64 .i64 n (by omega) (by omega) W, ?_, alloc_below W _⟩
  have := run_convert_bytes_arg (P := Try.prog) (W.alloc (.cells (madeCells #[.int .u8 0] n) 5)) 61 5 Try.underlying61 Try.underlying5 W.heap.size 0 n n (List.replicate n 0) (by simp) (fun i hi => by
    rw [Nat.zero_add, cell_of_row _ _ _ _ 5 (0, 0) (heap_alloc_new W _)]
    have h1 : (List.replicate n (0 : Int)).getD i 0 = 0 := by rw [List.getD_eq_getElem?_getD, List.getElem?_replicate]; split <;> rfl
    rw [h1]
    have h2 : i % 1 = 0 := Nat.mod_one i
    simp [madeCells, hi, h2]) 9 Try.underlying9
  rw [strOf_zeros] at this
  exact this
end Go.Proofs.Ytpkoonokagchgaa
