/- The document's example of package lamp; a whole hash out of memory. -/
import Derived.Test.YtgmehaeccfbamaeBit
import Derived.Great.BuildSlice
import Derived.BigFrame
namespace Go.Proofs.Ytgmehaeccfbamae
open Go.ChangeShapes Go.WideShapes Go.ChangeAt Go.RowKit

theorem lc (W : World) (b : Nat) (cs : Array Value) (hs : cs.size = 32) (hg : W.heap[b]? = some (.cells cs 23 (0, 0))) : (loadCellsFrom ⟨b, 0, none⟩ 0 32 #[]).run Try.prog W = .ok cs W := by
  have := run_loadCells_list (P := Try.prog) W ⟨b, 0, none⟩ cs.toList (fun j v hv => by
    have hadd : (⟨b, 0, none⟩ : Addr).add j = ⟨b, j, none⟩ := by unfold Addr.add; split <;> simp_all
    rw [hadd, cell_of_row _ _ j cs 23 (0, 0) hg]
    simpa using hv)
  have hl : cs.toList.length = 32 := by simpa using hs
  rw [hl] at this
  simpa [loadCells] using this
/-- The document's example. -/
def H0 : List UInt8 := 128 :: List.replicate 31 0
theorem info23 : (Try.prog.info? 23).map (·.size) = some 32 := by kernel_rfl
theorem h0_size : (cellsOf H0).size = 32 := by kernel_rfl
theorem h0_one : (cellsOf H0).all (·.oneCell') = true := by kernel_rfl
theorem h0_built : Try.prog.built 23 [(0, .int .u8 128)] = some (cellsOf H0) := by kernel_rfl
/-- A load of a whole hash that is wanted, whatever its guard. -/
theorem wpList_load_want {w : World} {ops : Array Oper} {rest : List Oper} {o : Oper} {a : Act} {Q : Exit → Act → World → Prop} (hw : Region.wanted o (yielded ops a.tmps) = true) (x : Operand) (ho : o.op = .load 23 x)
    (g : Nat) (hx : a.eval x = .pointer (some ⟨g, 0, none⟩)) (cs : Array Value) (hs : cs.size = 32) (hg : w.heap[g]? = some (.cells cs 23 (0, 0))) (h : wpList Try.prog ops Q rest (a.put o.dst (.agg cs)) w) : wpList Try.prog ops Q (o :: rest) a w :=
  BigFrame.wpList_want hw fun _ hK => wp_load_row 23 x ho g hx 23 cs (0, 0) _ hg Try.underlying23 rfl (by rw [hs]; exact info23) (hK _ _ h)
set_option maxHeartbeats 4000000 in
set_option maxRecDepth 100000 in
theorem shown_any (w : World) : Calls Try.prog 4 #[] w fun e w' => e = .returned (.bool true) ∧ Below w.heap.size w w' := by
  have hB0 : Hid (∀ W, Calls Try.prog 5 #[.agg (cellsOf H0), .int .i64 0] W fun e w' => e = .returned (.int .i64 1) ∧ Below W.heap.size W w') := Lib.hid fun W => bit_in H0 rfl 0 (by decide) W
  have hB1 : Hid (∀ W, Calls Try.prog 5 #[.agg (cellsOf H0), .int .i64 1] W fun e w' => e = .returned (.int .i64 0) ∧ Below W.heap.size W w') := Lib.hid fun W => bit_in H0 rfl 1 (by decide) W
  have hR := Lib.hid (fun W => right_one W)
  have hl0 : (w.alloc (.cells (cellsOf H0) 23)).heap[w.heap.size]? = some (.cells (cellsOf H0) 23 (0, 0)) := heap_alloc_last w _
  have HL := Lib.hid hl0
  clear hl0
  go_enter Try.func4, Try.ntmps4
  go_wp2_with (first | (refine wpList_buildTo rfl 23 _ rfl _ rfl (cellsOf H0) (by exact h0_built) ?_) | (refine wpList_store_rowTo rfl 23 _ _ rfl rfl w.heap.size (cellsOf H0) rfl rfl 23 _ (heap_alloc_last w _) (by rw [h0_size]; exact info23) (by rw [h0_size]; rfl) h0_one ?_; rw [World.setRow_alloc_new]) | (refine wpList_load_want rfl _ rfl w.heap.size rfl (cellsOf H0) h0_size HL.out ?_))
  refine (hB0.out _).mono ?_
  rintro e w2 ⟨rfl, hb2⟩
  have hlt : w.heap.size < (w.alloc (.cells (cellsOf H0) 23)).heap.size := by simp
  have HL2 := Lib.hid ((hb2.block w.heap.size hlt).trans HL.out)
  have HB2 := Lib.hid (((Below.refl _ _).alloc (Nat.le_refl _) _).trans (hb2.mono (Nat.le_of_lt hlt)))
  clear hb2
  go_wp2_with (refine wpList_load_want rfl _ rfl w.heap.size rfl (cellsOf H0) h0_size HL2.out ?_)
  refine (hB1.out _).mono ?_
  rintro e w3 ⟨rfl, hb3⟩
  have HB3 := Lib.hid (HB2.out.trans (hb3.mono HB2.out.size))
  clear hb3
  go_wp2_with fail
  refine (hR.out _).mono ?_
  rintro e w4 ⟨rfl, hb4⟩
  have HB4 := Lib.hid (HB3.out.trans (hb4.mono HB3.out.size))
  clear hb4
  go_wp2
  go_ret
  exact ⟨rfl, HB4.out⟩
end Go.Proofs.Ytgmehaeccfbamae
