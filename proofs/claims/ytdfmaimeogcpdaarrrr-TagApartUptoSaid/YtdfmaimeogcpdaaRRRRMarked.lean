/- A row of bytes that a call has made itself, also out of a text (such a row bears a mark behind its last cell), and a text that is appended to it. Condition: the row stays shorter than memory. -/
import Derived.Test.YtdfmaimeogcpdaaRRRRPair
import Derived.RangeFuncBox
import Derived.Lib.AppendStr
import Derived.Lib.ConvBytes
import Derived.Deep.RegionLaw
import Derived.RangeFuncCalls
namespace Go.Proofs.YtdfmaimeogcpdaaRRRR
open Go.ChangeShapes Go.WideShapes Go.ChangeAt Go.RowKit

theorem cells_nums (s : ByteArray) : Lib.strCells s = (nums s).map (Value.int .u8) := by
  simp [Lib.strCells, nums]

/-- The slice v has just the cells xs, in a row from base on; none of the row's cells may not be written. -/
def RowOf (w : World) (base : Nat) (v : Value) (xs : List Value) : Prop :=
  ∃ g cap cur lo hi, v = .slice (some ⟨g, 0, none⟩) xs.length cap ∧ base ≤ g ∧ w.heap[g]? = some (.cells cur 5 (lo, hi)) ∧ (hi = 0 ∨ cur.size ≤ lo) ∧ xs.length ≤ cap ∧ cap ≤ maxLen ∧ cur.size = cap ∧ cur.toList.take xs.length = xs

theorem RowOf.kept {w w' : World} {base : Nat} {v : Value} {xs : List Value} {row : Option Nat} (h : RowOf w base v xs) (hg : w.grownBy w' row) (hne : v.ownBlock ≠ row) : RowOf w' base v xs := by
  obtain ⟨g, cap, cur, lo, hi, rfl, hb, hh, r⟩ := h
  exact ⟨g, cap, cur, lo, hi, rfl, hb, (hg.block g (Array.getElem?_eq_some_iff.1 hh).1 hne).trans hh, r⟩
theorem RowOf.lt {w : World} {base : Nat} {v : Value} {xs : List Value} (h : RowOf w base v xs) : ∀ k, v.ownBlock = some k → base ≤ k ∧ k < w.heap.size := by
  obtain ⟨g, cap, cur, lo, hi, rfl, hb, hh, r⟩ := h
  intro k hk
  cases hk
  exact ⟨hb, (Array.getElem?_eq_some_iff.1 hh).1⟩
theorem RowOf.cells {w : World} {base g cap : Nat} {xs : List Value} {n : Nat} (h : RowOf w base (.slice (some ⟨g, 0, none⟩) n cap) xs) (j : Nat) (u : Value) (hu : xs[j]? = some u) : w.cell? ⟨g, j, none⟩ = some u := by
  obtain ⟨g', cap', cur, lo, hi, e, hb, hh, _, _, _, _, ht⟩ := h
  cases e
  rw [cell_of_row w g j cur 5 (lo, hi) hh]
  rw [← ht, List.getElem?_take] at hu
  split at hu
  · rw [← Array.getElem?_toList]; exact hu
  · cases hu
theorem RowOf.shape {w : World} {base : Nat} {v : Value} {xs : List Value} (h : RowOf w base v xs) : ∃ g cap, v = .slice (some ⟨g, 0, none⟩) xs.length cap := by
  obtain ⟨g, cap, cur, lo, hi, rfl, _⟩ := h
  exact ⟨g, cap, rfl⟩

/-- Cells stored one by one into a row none of whose cells may not be written. -/
theorem store_free (P : Program) (g o lo hi : Nat) (t : TypeId) : ∀ (vs : List Value) (i : Nat) (cur : Array Value) (w : World), w.heap[g]? = some (.cells cur t (lo, hi)) → (hi = 0 ∨ cur.size ≤ lo) → o + i + vs.length ≤ cur.size → (∀ v ∈ vs, v.oneCell' = true) →
    (storeCells ⟨g, o, none⟩ vs i).run P w = .ok () (w.setRow g (cur.toList.take (o + i) ++ vs ++ cur.toList.drop (o + i + vs.length)).toArray) := by
  intro vs
  induction vs with
  | nil =>
    intro i cur w hg _ _ _
    have e : (cur.toList.take (o + i) ++ [] ++ cur.toList.drop (o + i + ([] : List Value).length)).toArray = cur := by
      rw [List.append_nil, List.length_nil, Nat.add_zero, List.take_append_drop, Array.toArray_toList]
    rw [e, setRow_self w g cur t (lo, hi) hg]
    rfl
  | cons v rest ih =>
    intro i cur w hg hfree hl h1
    have hlt : o + i < cur.size := by simp only [List.length_cons] at hl; omega
    have hat : (⟨g, o, none⟩ : Addr).add i = ⟨g, o + i, none⟩ := by unfold Addr.add; split <;> simp_all
    have hcell : w.cell? ⟨g, o + i, none⟩ = some cur[o + i] := by rw [cell_of_row w g (o + i) cur t (lo, hi) hg]; simp [hlt]
    have hfro : w.frozen? ⟨g, o + i, none⟩ = false := by
      unfold World.frozen?
      simp only [hg]
      rcases hfree with h | h
      · subst h; simp
      · simp only [Bool.and_eq_false_iff, decide_eq_false_iff_not]; omega
    have hone : (store ((⟨g, o, none⟩ : Addr).add i) v).run P w = .ok () (w.setRow g (cur.setIfInBounds (o + i) v)) := by
      rw [hat, run_store P w _ v _ (h1 v (List.mem_cons_self ..)), hcell]
      simp [hfro, setCell_eq_setRow w g (o + i) cur t (lo, hi) v hg]
    have hrest := ih (i + 1) (cur.setIfInBounds (o + i) v) (w.setRow g (cur.setIfInBounds (o + i) v)) (setRow_heap w g cur _ t _ hg) (by rw [Array.size_setIfInBounds]; exact hfree)
      (by rw [Array.size_setIfInBounds]; simp only [List.length_cons] at hl; omega) (fun x hx => h1 x (List.mem_cons_of_mem _ hx))
    have hseg := list_seg_step cur.toList (o + i) v rest (by rw [Array.length_toList]; simp only [List.length_cons] at hl; omega)
    simp only [storeCells, Sem.run_bind, hone, Result.andThen_ok, hrest, setRow_setRow]
    congr 3
    simpa [Array.toList_setIfInBounds, Nat.add_assoc] using hseg

/-- A text appended to a row of the call's own. -/
theorem run_append_text {P : Program} (w : World) (base : Nat) (t u ty : TypeId) (i : TypeInfo) (ht : P.underlying t = some (.slice 5)) (hu : P.underlying u = some .string) (hi : P.info? 5 = some i) (hz : i.zero = some (.int .u8 0)) (hsize : i.size = 1) (hby : i.bytes = 1)
    (v : Value) (xs : List Value) (h : RowOf w base v xs) (s : ByteArray) (hlen : xs.length + s.size ≤ 140737488355328) (hbase : base ≤ w.heap.size) :
    ∃ v' w', (Builtin.append_ #[t, u] ty #[v, .string s]).run P w = .ok v' w' ∧ RowOf w' base v' (xs ++ Lib.strCells s) ∧ w.grownBy w' v.ownBlock := by
  have hcells := fun g cap (e : v = .slice (some ⟨g, 0, none⟩) xs.length cap) => RowOf.cells (w := w) (base := base) (g := g) (cap := cap) (xs := xs) (n := xs.length) (e ▸ h)
  obtain ⟨g, cap, cur, lo, hi', rfl, hb, hh, hfree, hle, hmax, hsz, htake⟩ := h
  have hl : (xs ++ Lib.strCells s).length = xs.length + s.size := by rw [List.length_append, Lib.strCells_length]
  by_cases hroom : xs.length + s.size ≤ cap
  · have hf := Lib.run_firstCells_string (P := P) w 1 s
    have hst := store_free P g xs.length lo hi' 5 (Lib.strCells s) 0 cur w hh hfree (by rw [Lib.strCells_length]; omega) (Lib.strCells_oneCell s)
    simp only [Nat.add_zero, Lib.strCells_length] at hst
    refine ⟨_, _, by simp [Builtin.append_, run_underlying ht, run_underlying hu, sizeOf, typeInfo, hi, hsize, Builtin.lenOf, hroom, hf, Addr.add_lit, hst]; exact ⟨rfl, rfl⟩, ?_, ?_⟩
    · refine ⟨g, cap, _, lo, hi', by rw [hl], hb, setRow_heap w g cur _ 5 (lo, hi') hh, ?_, by rw [hl]; exact hroom, hmax, ?_, ?_⟩
      · simp only [List.size_toArray, List.length_append, List.length_take, List.length_drop, Array.length_toList, Lib.strCells_length]
        omega
      · simp only [List.size_toArray, List.length_append, List.length_take, List.length_drop, Array.length_toList, Lib.strCells_length]
        omega
      · rw [htake, List.toList_toArray, ← List.append_assoc]
        exact List.take_left
    · exact ⟨rfl, rfl, rfl, by simp, fun k _ hk => setRow_other w g k _ (fun e => hk (by rw [e]; rfl))⟩
  · have hr := Lib.run_append_grow_string (P := P) w t u ty 5 i (.int .u8 0) ht hu hi hz ⟨g, 0, none⟩ xs.length cap xs (by rw [hsize, Nat.mul_one])
      (fun j x hx => by
        have hadd : (⟨g, 0, none⟩ : Addr).add j = ⟨g, j, none⟩ := by unfold Addr.add; split <;> simp_all
        rw [hadd]
        exact hcells g cap rfl j x hx) s (by omega) (by omega) (by rw [hby]; exact growslice_fits (by omega) (by omega))
    have hge := grownCap_ge w (xs.length + s.size) cap 5
    have hcm := grownCap_le_maxLen w (xs.length + s.size) cap 5 (by unfold maxLen; omega)
    refine ⟨_, _, hr, ⟨w.heap.size, _, _, 0, 0, by rw [hl], hbase, heap_alloc_new w.drew _, .inl rfl, by rw [hl]; exact hge, hcm, ?_, ?_⟩, ⟨rfl, rfl, rfl, by simp, fun k hk _ => heap_alloc_old w.drew _ hk⟩⟩
    · have hz1 : (Value.int IntKind.u8 0).cells.size = 1 := rfl
      simp only [Array.size_append, List.size_toArray, size_zeroCells, hz1, Lib.strCells_length]
      omega
    · simp only [Array.toList_append, List.append_assoc]
      rw [← List.append_assoc]
      exact List.take_left

/-- That, as one step of a region whose order is drawn. -/
theorem step_append_text {P : Program} {ops : Array Oper} {o : Oper} {a : Act} {w : World} {K : Act → World → Prop} {Q : Exit → Act → World → Prop} {E : Prop}
    (hg : o.guard = none) (sl x : Operand) (t u : TypeId) (hop : o.op = .call { callee := .builtin .append, args := #[sl, x], argTypes := #[t, u] })
    (base : Nat) (i : TypeInfo) (ht : P.underlying t = some (.slice 5)) (hu : P.underlying u = some .string) (hi : P.info? 5 = some i) (hz : i.zero = some (.int .u8 0)) (hsize : i.size = 1) (hby : i.bytes = 1)
    (v : Value) (xs : List Value) (hs : a.eval sl = v) (hown : RowOf w base v xs) (s : ByteArray) (hx : a.eval x = .string s) (hlen : xs.length + s.size ≤ 140737488355328) (hbase : base ≤ w.heap.size)
    (hK : ∀ v' w', RowOf w' base v' (xs ++ Lib.strCells s) → w.grownBy w' v.ownBlock → K (a.put o.dst v') w') :
    if Region.wanted o (yielded ops a.tmps) = true then Oper.wp P o a w K Q else E := by
  have hw : Region.wanted o (yielded ops a.tmps) = true := by simp [Region.wanted, hg]
  rw [if_pos hw]
  obtain ⟨v', w', hr, h2, h3⟩ := run_append_text (P := P) w base t u o.type i ht hu hi hz hsize hby v xs hown s hlen hbase
  unfold Oper.wp
  simp [execOp, hop, resolve, invoke, builtin, hs, hx, hr, Result.andThen]
  exact hK v' w' h2 h3
/-- And as an operation of a plain walk. -/
theorem wpList_append_text {P : Program} {w : World} {ops : Array Oper} {rest : List Oper} {o : Oper} {a : Act} {Q : Exit → Act → World → Prop}
    (hg : o.guard = none) (sl x : Operand) (t u : TypeId) (hop : o.op = .call { callee := .builtin .append, args := #[sl, x], argTypes := #[t, u] })
    (base : Nat) (i : TypeInfo) (ht : P.underlying t = some (.slice 5)) (hu : P.underlying u = some .string) (hi : P.info? 5 = some i) (hz : i.zero = some (.int .u8 0)) (hsize : i.size = 1) (hby : i.bytes = 1)
    (v : Value) (xs : List Value) (hs : a.eval sl = v) (hown : RowOf w base v xs) (s : ByteArray) (hx : a.eval x = .string s) (hlen : xs.length + s.size ≤ 140737488355328) (hbase : base ≤ w.heap.size)
    (hK : ∀ v' w', RowOf w' base v' (xs ++ Lib.strCells s) → w.grownBy w' v.ownBlock → wpList P ops Q rest (a.put o.dst v') w') : wpList P ops Q (o :: rest) a w := by
  refine wpList_plain hg fun K hK' => ?_
  obtain ⟨v', w', hr, h2, h3⟩ := run_append_text (P := P) w base t u o.type i ht hu hi hz hsize hby v xs hown s hlen hbase
  unfold Oper.wp execOp
  simp only [hop, resolve, invoke, builtin, Sem.run_bind, Sem.run_pure, Result.andThen_ok, List.map_toArray, List.map_cons, List.map_nil, hs, hx, hr]
  exact hK' _ _ (hK v' w' h2 h3)

/-! ### A variable that holds a row -/
theorem Boxed.apart {W : World} {base B : Nat} {v : Value} {xs : List Value} {u : Value} (h : Boxed W B 39 u) (hr : RowOf W base v xs) : some B ≠ v.ownBlock := by
  obtain ⟨g, cap, cur, lo, hi, rfl, _, hh, _⟩ := hr
  intro e
  obtain rfl : B = g := by cases e; rfl
  rw [show W.heap[B]? = _ from h] at hh
  cases hh
/-- Whatever is no row of bytes, and not the block B, lies as it lay. -/
def Spared (B : Nat) (W W' : World) : Prop := ∀ k o, k ≠ B → W.heap[k]? = some o → (∀ cur fz, o ≠ .cells cur 5 fz) → W'.heap[k]? = some o
theorem Spared.trans {B : Nat} {X Y Z : World} (h : Spared B X Y) (h' : Spared B Y Z) : Spared B X Z := fun k o hk ho hn => h' k o hk (h k o hk ho hn) hn
theorem Spared.of_below {B : Nat} {X Y : World} (h : Below X.heap.size X Y) : Spared B X Y := fun k _ _ ho _ => (h.block k (Array.getElem?_eq_some_iff.1 ho).1).trans ho
theorem Spared.boxed {B B' : Nat} {X Y : World} (h : Spared B X Y) {t : TypeId} {v : Value} (hb : Boxed X B' t v) (hB : B' ≠ B) (ht : t ≠ 5) : Boxed Y B' t v :=
  h B' _ hB hb (fun cur fz e => ht (by cases e; rfl))
theorem Spared.step {W w1 : World} {base B : Nat} {v v' : Value} {xs : List Value} (hrow : RowOf W base v xs) (hg : W.grownBy w1 v.ownBlock) : Spared B W (w1.setCell ⟨B, 0, none⟩ v') := by
  intro k o hk ho hn
  rw [Below.heap_setCell _ _ _ k hk]
  refine (hg.block k (Array.getElem?_eq_some_iff.1 ho).1 fun e => ?_).trans ho
  obtain ⟨g, cap, cur, lo, hi, rfl, _, hh, _⟩ := hrow
  cases e
  rw [hh] at ho
  cases ho
  exact hn _ _ rfl

/-- A variable's row that was appended to, and the new value that is stored. -/
theorem box_step {W w1 : World} {base B : Nat} {v v' : Value} {xs ys : List Value} (hv : Boxed W B 39 v) (hrow : RowOf W base v xs) (hg : W.grownBy w1 v.ownBlock) (hown : RowOf w1 base v' ys)
    (hB : base ≤ B) (hW : base ≤ W.heap.size) :
    Boxed w1 B 39 v ∧ Boxed (w1.setCell ⟨B, 0, none⟩ v') B 39 v' ∧ RowOf (w1.setCell ⟨B, 0, none⟩ v') base v' ys ∧ KeepsOthers W (w1.setCell ⟨B, 0, none⟩ v') ∧ Below base W (w1.setCell ⟨B, 0, none⟩ v') := by
  have h1 : Boxed w1 B 39 v := hv.kept hg (Boxed.apart hv hrow)
  refine ⟨h1, h1.set v', hown.kept (grownBy_setCell' w1 B v') (Boxed.apart h1 hown).symm, ?_, ?_⟩
  · refine (KeepsOthers.of_grownBy hg fun j o ej hj => ?_).trans (KeepsOthers.setCell _ _ _)
    obtain ⟨g, cap, cur, lo, hi, rfl, _, hh, _⟩ := hrow
    cases ej
    rw [hh] at hj
    cases hj
    rfl
  · exact ((Below.refl base W).grown hg hW fun j ej => (hrow.lt j ej).1).setCell (p := ⟨B, 0, none⟩) hB v'

theorem keeps_of_below {W W' : World} (h : Below W.heap.size W W') : KeepsOthers W W' := ⟨h.size, fun k _ hk _ => (h.block k (Array.getElem?_eq_some_iff.1 hk).1).trans hk⟩
theorem grown_of_below {W W' : World} (h : Below W.heap.size W W') : W.grownBy W' none := ⟨h.os, h.tape, h.output, h.size, fun k hk _ => h.block k hk⟩
theorem boxed_below {W W' : World} {B : Nat} {t : TypeId} {v : Value} (hv : Boxed W B t v) (h : Below W.heap.size W W') : Boxed W' B t v := (h.block B hv.lt).trans hv
theorem rowOf_below {W W' : World} {base : Nat} {v : Value} {xs : List Value} (hr : RowOf W base v xs) (h : Below W.heap.size W W') : RowOf W' base v xs := by
  obtain ⟨g, cap, rfl⟩ := hr.shape
  exact hr.kept (grown_of_below h) (by simp [Value.ownBlock])

/-- The row that a text's bytes are laid in. -/
theorem conv_row (w : World) (s : ByteArray) (h : grownCap w s.size 0 5 ≤ maxLen) : RowOf (Lib.bytesWorld w 5 s) w.heap.size (.slice (some ⟨w.heap.size, 0, none⟩) s.size (grownCap w s.size 0 5)) (Lib.strCells s) := by
  have hge := grownCap_ge w s.size 0 5
  have hs : (Lib.bytesCells w 5 s).size = grownCap w s.size 0 5 := by
    simp only [Lib.bytesCells, Array.size_append, Array.size_map, Array.size_replicate]
    have : s.data.size = s.size := rfl
    omega
  refine ⟨w.heap.size, _, _, _, _, by rw [Lib.strCells_length], Nat.le_refl _, Lib.bytesWorld_at_new w 5 s, .inr (Nat.le_refl _), by rw [Lib.strCells_length]; exact hge, h, hs, ?_⟩
  have e : (Lib.bytesCells w 5 s).toList = Lib.strCells s ++ List.replicate (grownCap w s.size 0 5 - s.size) (.int .u8 0) := by
    simp [Lib.bytesCells, Lib.strCells]
  rw [e]
  exact List.take_left
end Go.Proofs.YtdfmaimeogcpdaaRRRR
