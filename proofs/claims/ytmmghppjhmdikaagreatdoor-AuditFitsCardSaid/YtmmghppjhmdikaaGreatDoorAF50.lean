/- What audit.New answers of a height of 7: that it may not be. No conditions. -/
import Derived.Test.YtmmghppjhmdikaaGreatDoorAF28
import Derived.Great.BuildSlice
import Derived.Great.Ranges
import Derived.Great.Walk
import Derived.BigFrame
import Derived.Deep.WholeRow
namespace Go.Proofs.YtmmghppjhmdikaaGreatDoor.Bf
open Go.ChangeShapes Go.WideShapes Go.ChangeAt Go.RowKit Go.Great

/-- A hash of nothing but 0. -/
def Z32 : Array Value := Array.replicate 32 (.int .u8 0)
/-- The cells of an auditor of nothing but 0. -/
def A0 : Array Value :=
  let z : List Value := List.replicate 32 (Value.int .u8 0)
  let l1 : List Value := [.int .i64 0, .int .i64 0, .bool false, .int .i64 0]
  let l2 : List Value := [.int .i64 0, .int .i64 0, .int .u32 0, .int .u32 0, .int .u64 0, .bool false]
  (z ++ (l1 ++ (z ++ (l2 ++ z)))).toArray
theorem infoA : (Tryz.prog.info? 42).map (fun i => (i.zero, i.size)) = some (some (.agg A0), 106) := by kernel_rfl
theorem infoZ : (Tryz.prog.info? 36).map (·.size) = some 32 := by kernel_rfl
theorem a0_size : A0.size = 106 := by kernel_rfl
theorem a0_one : A0.all (·.oneCell') = true := by kernel_rfl
theorem a0_built : Tryz.prog.built 42 [] = some A0 := by kernel_rfl
theorem z32_built : Tryz.prog.built 36 [] = some Z32 := by kernel_rfl
theorem z32_size : Z32.size = 32 := by kernel_rfl
theorem last_at (w : World) (o : Obj) (c : Array Value) (t : TypeId) : ((w.alloc o).alloc (.cells c t)).heap[w.heap.size + 1]? = some (.cells c t (0, 0)) := by
  have := heap_alloc_last (w.alloc o) (.cells c t)
  simpa using this
theorem set_at (w : World) (o : Obj) (c c' : Array Value) (t : TypeId) : ((w.alloc o).alloc (.cells c t)).setRow (w.heap.size + 1) c' = (w.alloc o).alloc (.cells c' t) := by
  have := World.setRow_alloc_new (w.alloc o) c c' t
  simpa using this
theorem load_a (W : World) (b : Nat) (h : W.heap[b]? = some (.cells A0 42 (0, 0))) : (loadVar 42 ⟨b, 0, none⟩).run Tryz.prog W = .ok (.agg A0) W :=
  run_loadVar_row W b 42 42 A0 (0, 0) _ h Tryz.underlying42 rfl (by rw [a0_size]; exact (zero_of_info infoA).2)
set_option maxHeartbeats 1000000 in
set_option maxRecDepth 100000 in
theorem new_seven (w : World) : Calls Tryz.prog 8 #[.agg Z32, .int .i64 7, .int .i64 1] w fun e w' => e = .returned (.tuple #[.agg A0, .int .i64 1]) ∧ Below w.heap.size w w' := by
  have hz := (zero_of_info infoA).1
  go_enter Tryz.func8, Tryz.ntmps8
  go_wp2_with (first
    | (refine wpList_boxTo rfl 36 _ rfl _ rfl w.heap.size rfl Z32 rfl ?_)
    | (refine wpList_buildTo rfl 42 _ rfl _ rfl A0 (by exact a0_built) ?_)
    | (refine wpList_store_rowTo rfl 42 _ _ rfl rfl (w.heap.size + 1) A0 rfl rfl 42 _ (last_at w _ _ _) (by rw [a0_size]; exact (zero_of_info infoA).2) rfl a0_one ?_; rw [set_at]))
  have hl := load_a _ _ (last_at w (.cells Z32 36) A0 42)
  refine bodyPost_ret (v := .tuple #[.agg A0, .int .i64 1]) (by simp [results, Tryz.results8, asAddr, hl]) rfl ⟨rfl, ((Below.refl _ _).alloc (Nat.le_refl _) _).alloc (by simp) _⟩
end Go.Proofs.YtmmghppjhmdikaaGreatDoor.Bf
