/- Rows of briefs in memory, and what package brief's All joins them to. Condition: the row's cells lie where they are said to lie. -/
import Derived.Test.YtloknemmodmkiaaJoined
import Derived.LoopTactic
import Derived.Laws.Tables
import Derived.Deep.WholeRow
namespace Go.Proofs.Ytloknemmodmkiaa
open Go.ChangeShapes Go.WideShapes Go.ChangeAt Go.RowKit

/-- A variable that holds a brief. -/
def Box6 (W : World) (B : Nat) (x : Br) : Prop := W.heap[B]? = some (.cells #[.int .i64 x.f, .int .i64 x.l, .int .u32 x.g, .int .u32 x.r, .int .u64 x.m, .bool x.k] 30 (0, 0))
theorem Box6.lt {W : World} {B : Nat} {x : Br} (h : Box6 W B x) : B < W.heap.size := (Array.getElem?_eq_some_iff.1 h).1
theorem Box6.cells {W : World} {B : Nat} {x : Br} (h : Box6 W B x) : W.cell? ⟨B, 0, none⟩ = some (.int .i64 x.f) ∧ W.cell? ⟨B, 1, none⟩ = some (.int .i64 x.l) ∧ W.cell? ⟨B, 2, none⟩ = some (.int .u32 x.g) ∧ W.cell? ⟨B, 3, none⟩ = some (.int .u32 x.r) ∧ W.cell? ⟨B, 4, none⟩ = some (.int .u64 x.m) ∧ W.cell? ⟨B, 5, none⟩ = some (.bool x.k) :=
  ⟨cell_of_row W B 0 _ 30 (0, 0) h, cell_of_row W B 1 _ 30 (0, 0) h, cell_of_row W B 2 _ 30 (0, 0) h, cell_of_row W B 3 _ 30 (0, 0) h, cell_of_row W B 4 _ 30 (0, 0) h, cell_of_row W B 5 _ 30 (0, 0) h⟩
theorem Box6.frozen {W : World} {B : Nat} {x : Br} (h : Box6 W B x) (j : Nat) : W.frozen? ⟨B, j, none⟩ = false := by simp [World.frozen?, show W.heap[B]? = _ from h]
theorem Box6.new (W : World) (x : Br) : Box6 (W.alloc (.cells #[.int .i64 x.f, .int .i64 x.l, .int .u32 x.g, .int .u32 x.r, .int .u64 x.m, .bool x.k] 30)) W.heap.size x := heap_alloc_last W _
theorem Box6.below {W W' : World} {B : Nat} {x : Br} (h : Box6 W B x) (hb : Below W.heap.size W W') : Box6 W' B x := (hb.block B h.lt).trans h
theorem cells_set {W : World} {B : Nat} {cs : Array Value} (h : W.heap[B]? = some (.cells cs 30 (0, 0))) (i : Nat) (v : Value) : (W.setCell ⟨B, i, none⟩ v).heap[B]? = some (.cells (cs.setIfInBounds i v) 30 (0, 0)) := by
  rw [setCell_eq_setRow W B i cs 30 (0, 0) v h, setRow_heap W B cs _ 30 (0, 0) h]
theorem Box6.set {W : World} {B : Nat} {x : Br} (h : Box6 W B x) (y : Br) :
    Box6 ((((((W.setCell ⟨B, 0, none⟩ (.int .i64 y.f)).setCell ⟨B, 1, none⟩ (.int .i64 y.l)).setCell ⟨B, 2, none⟩ (.int .u32 y.g)).setCell ⟨B, 3, none⟩ (.int .u32 y.r)).setCell ⟨B, 4, none⟩ (.int .u64 y.m)).setCell ⟨B, 5, none⟩ (.bool y.k)) B y :=
  cells_set (cells_set (cells_set (cells_set (cells_set (cells_set h 0 _) 1 _) 2 _) 3 _) 4 _) 5 _

theorem Box6.other {W : World} {B C : Nat} {x : Br} (h : Box6 W C x) (hne : C ≠ B) (v0 v1 v2 v3 v4 v5 : Value) :
    Box6 ((((((W.setCell ⟨B, 0, none⟩ v0).setCell ⟨B, 1, none⟩ v1).setCell ⟨B, 2, none⟩ v2).setCell ⟨B, 3, none⟩ v3).setCell ⟨B, 4, none⟩ v4).setCell ⟨B, 5, none⟩ v5) C x := by
  unfold Box6
  rw [Below.heap_setCell _ _ _ _ hne, Below.heap_setCell _ _ _ _ hne, Below.heap_setCell _ _ _ _ hne, Below.heap_setCell _ _ _ _ hne, Below.heap_setCell _ _ _ _ hne, Below.heap_setCell _ _ _ _ hne]
  exact h

/-- A row of briefs. -/
def BrsAt (W : World) (A : Option Addr) (n : Nat) (bs : List Br) : Prop :=
  bs.length = n ∧ (0 < n → ∃ b off, A = some ⟨b, off, none⟩ ∧ b < W.heap.size ∧ ∀ i x, bs[i]? = some x → W.cell? ⟨b, off + i * 6, none⟩ = some (.int .i64 x.f) ∧ W.cell? ⟨b, off + i * 6 + 1, none⟩ = some (.int .i64 x.l) ∧ W.cell? ⟨b, off + i * 6 + 2, none⟩ = some (.int .u32 x.g) ∧ W.cell? ⟨b, off + i * 6 + 3, none⟩ = some (.int .u32 x.r) ∧ W.cell? ⟨b, off + i * 6 + 4, none⟩ = some (.int .u64 x.m) ∧ W.cell? ⟨b, off + i * 6 + 5, none⟩ = some (.bool x.k))
theorem BrsAt.below {W W' : World} {A : Option Addr} {n : Nat} {bs : List Br} (h : BrsAt W A n bs) (hb : Below W.heap.size W W') : BrsAt W' A n bs := by
  refine ⟨h.1, fun h0 => ?_⟩
  obtain ⟨b, off, rfl, hlt, hc⟩ := h.2 h0
  refine ⟨b, off, rfl, Nat.lt_of_lt_of_le hlt hb.size, fun i x hx => ?_⟩
  obtain ⟨c0, c1, c2, c3, c4, c5⟩ := hc i x hx
  have hk := (bcell hb).1
  exact ⟨(hk _ _ hlt).trans c0, (hk _ _ hlt).trans c1, (hk _ _ hlt).trans c2, (hk _ _ hlt).trans c3, (hk _ _ hlt).trans c4, (hk _ _ hlt).trans c5⟩

set_option maxHeartbeats 2000000 in
theorem fold_any (A : Option Addr) (n cap : Nat) (bs : List Br) (y : Br) (w : World) (hA : BrsAt w A n bs) (hn : n ≤ 140737488355328) (Z : Br) (hZ : Z = bs.foldl joinB y) :
    Calls Try.prog 23 #[.slice A n cap, .agg #[.int .i64 y.f, .int .i64 y.l, .int .u32 y.g, .int .u32 y.r, .int .u64 y.m, .bool y.k], .func (.func 17) #[] #[]] w fun e w' => e = .returned (.agg #[.int .i64 Z.f, .int .i64 Z.l, .int .u32 Z.g, .int .u32 Z.r, .int .u64 Z.m, .bool Z.k]) ∧ Below w.heap.size w w' := by
  have HZ := Lib.hid hZ
  clear hZ
  go_enter Try.func23, Try.ntmps23
  go_wp2
  obtain ⟨W0, hW0⟩ : ∃ W0, (w.alloc (.cells #[.int .i64 y.f, .int .i64 y.l, .int .u32 y.g, .int .u32 y.r, .int .u64 y.m, .bool y.k] 30)).alloc (.cells #[.int .i64 0, .int .i64 0, .int .u32 0, .int .u32 0, .int .u64 0, .bool false] 30) = W0 := ⟨_, rfl⟩
  have b0 : Box6 W0 w.heap.size y := by rw [← hW0]; exact (Box6.new w y).below (alloc_below _ _)
  have r0 : Box6 W0 (w.heap.size + 1) none6 := by
    have h := Box6.new (w.alloc (.cells #[.int .i64 y.f, .int .i64 y.l, .int .u32 y.g, .int .u32 y.r, .int .u64 y.m, .bool y.k] 30)) none6
    rw [World.size_alloc] at h
    rw [← hW0]; exact h
  have B0 : Below w.heap.size w W0 := by rw [← hW0]; exact ((Below.refl _ _).alloc (Nat.le_refl _) _).alloc (by simp) _
  rw [hW0]
  clear hW0
  go_loopw [11] (fun i wr => ∃ (k : Nat) (x : Br), k ≤ n ∧ i = .int .i64 k ∧ Hid (x = (bs.take k).foldl joinB y) ∧ Box6 wr w.heap.size x ∧ Box6 wr (w.heap.size + 1) none6 ∧ Below w.heap.size w wr) (fun i _ => n - (intOf i).toNat)
  case atStart => exact ⟨0, y, Nat.zero_le _, rfl, Lib.hid rfl, b0, r0, B0⟩
  case round =>
    obtain ⟨k, x, hk, rfl, hx, hbx, hrx, hB⟩ := hrel
    by_cases hlt : k < n
    · have hl := hA.1
      obtain ⟨b, off, rfl, hb, hc⟩ := (hA.below hB).2 (by omega)
      obtain ⟨v, hv⟩ : ∃ v, bs[k]? = some v := ⟨bs[k]'(by omega), List.getElem?_eq_getElem _⟩
      obtain ⟨c0, c1, c2, c3, c4, c5⟩ := hc k v hv
      obtain ⟨d0, d1, d2, d3, d4, d5⟩ := hbx.cells
      have ha := fun o => hbx.frozen o
      have HV := Lib.hid hv
      clear hc hv hl
      have e0 : ∀ o, (wr.alloc o).cell? ⟨w.heap.size, 0, none⟩ = some (.int .i64 x.f) := fun o => (hbx.below (alloc_below wr o)).cells.1
      have e1 : ∀ o, (wr.alloc o).cell? ⟨w.heap.size, 1, none⟩ = some (.int .i64 x.l) := fun o => (hbx.below (alloc_below wr o)).cells.2.1
      have e2 : ∀ o, (wr.alloc o).cell? ⟨w.heap.size, 2, none⟩ = some (.int .u32 x.g) := fun o => (hbx.below (alloc_below wr o)).cells.2.2.1
      have e3 : ∀ o, (wr.alloc o).cell? ⟨w.heap.size, 3, none⟩ = some (.int .u32 x.r) := fun o => (hbx.below (alloc_below wr o)).cells.2.2.2.1
      have e4 : ∀ o, (wr.alloc o).cell? ⟨w.heap.size, 4, none⟩ = some (.int .u64 x.m) := fun o => (hbx.below (alloc_below wr o)).cells.2.2.2.2.1
      have e5 : ∀ o, (wr.alloc o).cell? ⟨w.heap.size, 5, none⟩ = some (.bool x.k) := fun o => (hbx.below (alloc_below wr o)).cells.2.2.2.2.2
      clear d0 d1 d2 d3 d4 d5 ha
      go_wp2_with fail
      refine (join_R x v (joinB x v) rfl _).mono ?_
      rintro e w1 ⟨rfl, hb1⟩
      have B1 : Below wr.heap.size wr w1 := (alloc_below wr _).trans (hb1.mono (by simp))
      have hb2 := hbx.below B1
      have hr2 := hrx.below B1
      have hB2 := hB.trans (B1.mono hB.size)
      obtain ⟨d0, d1, d2, d3, d4, d5⟩ := hb2.cells
      have ha := fun o => hb2.frozen o
      have HN := Lib.hid (fold_take_succ bs k v y HV.out)
      clear hb1 e0 e1 e2 e3 e4 e5 c0 c1 c2 c3 c4 c5 HV
      go_wp2
      go_roundw
      case rel =>
        refine ⟨k + 1, joinB x v, by omega, by go_num, Lib.hid (by rw [HN.out, ← hx.out]), hb2.set _, ?_, ?_⟩
        · exact hr2.other (by omega) _ _ _ _ _ _
        · exact store6 hB2 (Nat.le_refl _) _ _ _ _ _ _
      case measure => simp [intOf]; omega
    · obtain rfl : k = n := by omega
      have hxz : x = Z := by rw [hx.out, HZ.out, List.take_of_length_le (by rw [hA.1]; exact Nat.le_refl _)]
      subst hxz
      obtain ⟨d0, d1, d2, d3, d4, d5⟩ := hbx.cells
      obtain ⟨c0, c1, c2, c3, c4, c5⟩ := hrx.cells
      have ha := fun o => hrx.frozen o
      have HR := Lib.hid hrx
      have HB := Lib.hid hB
      clear hbx hrx hA hB hx HZ
      go_wp2
      refine bodyPost_ret (v := .agg #[.int .i64 x.f, .int .i64 x.l, .int .u32 x.g, .int .u32 x.r, .int .u64 x.m, .bool x.k]) ?_ rfl ⟨rfl, store6 HB.out (by omega) _ _ _ _ _ _⟩
      obtain ⟨q0, q1, q2, q3, q4, q5⟩ := (HR.out.set x).cells
      simp [results, Try.results23, go_sem, q0, q1, q2, q3, q4, q5]

/-! ### all -/
set_option maxHeartbeats 2000000 in
theorem all_any (A : Option Addr) (n cap : Nat) (bs : List Br) (w : World) (hA : BrsAt w A n bs) (hn : n ≤ 140737488355328) (Z : Br) (hZ : Z = foldB bs) :
    Calls Try.prog 15 #[.slice A n cap] w fun e w' => e = .returned (.agg #[.int .i64 Z.f, .int .i64 Z.l, .int .u32 Z.g, .int .u32 Z.r, .int .u64 Z.m, .bool Z.k]) ∧ Below w.heap.size w w' := by
  have HF := Lib.hid (fun W (hb : Below w.heap.size w W) => fold_any A n cap bs none6 W (hA.below hb) hn Z hZ)
  clear hA hZ
  go_enter Try.func15, Try.ntmps15
  go_wp2_with fail
  refine (none_any _).mono ?_
  rintro e w1 ⟨rfl, hb1⟩
  have B1 : Below w.heap.size w w1 := (alloc_below w _).trans (hb1.mono (by simp))
  have r1 : Box6 w1 w.heap.size none6 := (Box6.new w none6).below hb1
  clear hb1
  go_wp2_with fail
  refine (HF.out _ B1).mono ?_
  rintro e w2 ⟨rfl, hb2⟩
  have B2 := B1.trans (hb2.mono B1.size)
  have r2 := r1.below hb2
  clear hb2 r1 B1
  obtain ⟨c0, c1, c2, c3, c4, c5⟩ := r2.cells
  have ha := fun o => r2.frozen o
  have HR := Lib.hid r2
  have HB := Lib.hid B2
  clear r2 B2
  go_wp2
  refine bodyPost_ret (v := .agg #[.int .i64 Z.f, .int .i64 Z.l, .int .u32 Z.g, .int .u32 Z.r, .int .u64 Z.m, .bool Z.k]) ?_ rfl ⟨rfl, store6 HB.out (Nat.le_refl _) _ _ _ _ _ _⟩
  obtain ⟨q0, q1, q2, q3, q4, q5⟩ := (HR.out.set Z).cells
  simp [results, Try.results15, go_sem, q0, q1, q2, q3, q4, q5]
end Go.Proofs.Ytloknemmodmkiaa
