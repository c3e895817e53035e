/- What the document's own Sync answers of a right disk. -/
import Derived.Test.YtpkoonokagchgaaRefActs
namespace Go.Proofs.Ytpkoonokagchgaa
open Go.ChangeShapes Go.WideShapes Go.ChangeAt Go.RowKit

/-- The four cells of a disk. -/
theorem Bx.four {W : World} {B : Nat} {a b c d : Value} (h : Bx W B 25 #[a, b, c, d]) : W.cell? ⟨B, 0, none⟩ = some a ∧ W.cell? ⟨B, 1, none⟩ = some b ∧ W.cell? ⟨B, 2, none⟩ = some c ∧ W.cell? ⟨B, 3, none⟩ = some d :=
  ⟨h.cell 0 rfl, h.cell 1 rfl, h.cell 2 rfl, h.cell 3 rfl⟩
theorem four_below {w W : World} {r : Nat} (h : Below w.heap.size w W) (hr : w.heap.size ≤ r) (v0 v1 v2 v3 : Value) :
    Below w.heap.size w ((((W.setCell ⟨r, 0, none⟩ v0).setCell ⟨r, 1, none⟩ v1).setCell ⟨r, 2, none⟩ v2).setCell ⟨r, 3, none⟩ v3) :=
  (((h.setCell (p := ⟨r, 0, none⟩) hr v0).setCell (p := ⟨r, 1, none⟩) hr v1).setCell (p := ⟨r, 2, none⟩) hr v2).setCell (p := ⟨r, 3, none⟩) hr v3

/-- A row is read as before where another block is stored into. -/
theorem CellsAt.set {W : World} {A : Option Addr} {cs : List Value} (h : CellsAt W A cs) {a : Addr} (ha : ∀ b, A.map (·.block) = some b → b ≠ a.block) (u : Value) : CellsAt (W.setCell a u) A cs := fun hl => by
  obtain ⟨b, off, h1, h2, h3⟩ := h hl
  subst h1
  have hne := ha b rfl
  refine ⟨b, off, rfl, by simpa using h2, fun j v hv => ?_⟩
  rw [World.cell?_of_block (w := W) (heap_setCell_other W a b u hne)]
  exact h3 j v hv
theorem RowT.set {W : World} {A : Option Addr} {c : Nat} {l : List ByteArray} (h : RowT W A c l) {a : Addr} (ha : ∀ b, A.map (·.block) = some b → b ≠ a.block) (u : Value) : RowT (W.setCell a u) A c l := ⟨h.k.set ha u, h.nn, h.le⟩
theorem RowW.set {W : World} {A : Option Addr} {c : Nat} {l : List Wr} (h : RowW W A c l) {a : Addr} (ha : ∀ b, A.map (·.block) = some b → b ≠ a.block) (u : Value) : RowW (W.setCell a u) A c l := ⟨h.k.set ha u, h.nn, h.le⟩
theorem RowT.four {W : World} {A : Option Addr} {c : Nat} {l : List ByteArray} (h : RowT W A c l) {r : Nat} (ha : ∀ b, A.map (·.block) = some b → b ≠ r) (v0 v1 v2 v3 : Value) :
    RowT ((((W.setCell ⟨r, 0, none⟩ v0).setCell ⟨r, 1, none⟩ v1).setCell ⟨r, 2, none⟩ v2).setCell ⟨r, 3, none⟩ v3) A c l := (((h.set ha v0).set ha v1).set ha v2).set ha v3
theorem RowW.four {W : World} {A : Option Addr} {c : Nat} {l : List Wr} (h : RowW W A c l) {r : Nat} (ha : ∀ b, A.map (·.block) = some b → b ≠ r) (v0 v1 v2 v3 : Value) :
    RowW ((((W.setCell ⟨r, 0, none⟩ v0).setCell ⟨r, 1, none⟩ v1).setCell ⟨r, 2, none⟩ v2).setCell ⟨r, 3, none⟩ v3) A c l := (((h.set ha v0).set ha v1).set ha v2).set ha v3

theorem next5 {w V W : World} {a0 a1 a2 a3 : Addr} {v0 v1 v2 v3 : Value} (h0 : a0.block < W.heap.size) (h1 : a1.block < W.heap.size) (h2 : a2.block < W.heap.size) (h3 : a3.block < W.heap.size)
    (h : W.cell? a0 = some v0 ∧ W.cell? a1 = some v1 ∧ W.cell? a2 = some v2 ∧ W.cell? a3 = some v3 ∧ Below w.heap.size w W) (hb : Below W.heap.size W V) :
    V.cell? a0 = some v0 ∧ V.cell? a1 = some v1 ∧ V.cell? a2 = some v2 ∧ V.cell? a3 = some v3 ∧ Below w.heap.size w V :=
  ⟨(hb.cell h0).trans h.1, (hb.cell h1).trans h.2.1, (hb.cell h2).trans h.2.2.1, (hb.cell h3).trans h.2.2.2.1, below_trans h.2.2.2.2 hb⟩

theorem cell_lt {W : World} {a : Addr} {v : Value} (h : W.cell? a = some v) : a.block < W.heap.size := World.block_lt_of_cell? W a h

theorem next5' {w V W : World} {a0 a1 a2 a3 : Addr} {v0 v1 v2 v3 : Value}
    (h : W.cell? a0 = some v0 ∧ W.cell? a1 = some v1 ∧ W.cell? a2 = some v2 ∧ W.cell? a3 = some v3 ∧ Below w.heap.size w W) (hb : Below W.heap.size W V) :
    V.cell? a0 = some v0 ∧ V.cell? a1 = some v1 ∧ V.cell? a2 = some v2 ∧ V.cell? a3 = some v3 ∧ Below w.heap.size w V :=
  next5 (cell_lt h.1) (cell_lt h.2.1) (cell_lt h.2.2.1) (cell_lt h.2.2.2.1) h hb

set_option maxHeartbeats 4000000 in
set_option maxRecDepth 100000 in
theorem refSync_any (d : Dk) (hd : Ok d) (kA : Option Addr) (kc : Nat) (wA : Option Addr) (wc : Nat) (w : World) (hA : At w d kA kc wA wc) (hm : d.ws.length ≤ 1000000) (ho : d.off = false) :
    Calls Try.prog 21 #[dval d kA kc wA wc] w fun e w' => ∃ A' c', e = .returned (.tuple #[.agg #[.int .i64 d.sz, .slice A' d.ks.length c', .slice none 0 0, .bool false], .int .i64 0]) ∧ RowT w' A' c' (imageD d) ∧ Below w.heap.size w w' := by
  have HI : Hid (∀ W, Below w.heap.size w W → Calls Try.prog 28 #[dval d kA kc wA wc] W fun e w' => ∃ A' c', e = .returned (.slice A' d.ks.length c') ∧ RowT w' A' c' (imageD d) ∧ NewA W A' ∧ Below W.heap.size W w') := Lib.hid fun W hW => refImage_any d hd kA kc wA wc _ (hA.below hW) hm
  clear hA hd hm
  unfold dval at *
  rw [ho] at *
  generalize d.ks.length = n at *
  generalize d.ws.length = m at *
  generalize imageD d = L at *
  generalize d.sz = sz at *
  go_enter Try.func21, Try.ntmps21
  go_wp2_with fail
  obtain ⟨V, hV⟩ : ∃ V, (w.alloc (.cells #[.int .i64 sz, .slice kA n kc, .slice wA m wc, .bool false] 25)).alloc (.cells #[.int .i64 0, .slice none 0 0, .slice none 0 0, .bool false] 25) = V := ⟨_, rfl⟩
  have X1 : Bx V w.heap.size 25 #[.int .i64 sz, .slice kA n kc, .slice wA m wc, .bool false] := by rw [← hV]; exact (Bx.new w 25 _).below (alloc_below _ _)
  have X2 : Bx V (w.heap.size + 1) 25 #[.int .i64 0, .slice none 0 0, .slice none 0 0, .bool false] := by
    have := Bx.new (w.alloc (.cells #[.int .i64 sz, .slice kA n kc, .slice wA m wc, .bool false] 25)) 25 #[.int .i64 0, .slice none 0 0, .slice none 0 0, .bool false]
    rw [hV] at this
    simpa using this
  have B1 : Below w.heap.size w V := by rw [← hV]; exact (alloc_below w _).alloc (by simp) _
  rw [hV]
  clear hV
  obtain ⟨x0, x1, x2, x3⟩ := X1.four
  have S0 : V.drew.cell? ⟨w.heap.size, 0, none⟩ = some (.int .i64 sz) ∧ V.drew.cell? ⟨w.heap.size, 1, none⟩ = some (.slice kA n kc) ∧ V.drew.cell? ⟨w.heap.size, 2, none⟩ = some (.slice wA m wc) ∧ V.drew.cell? ⟨w.heap.size, 3, none⟩ = some (.bool false) ∧ Below w.heap.size w V.drew := ⟨x0, x1, x2, x3, B1.drew⟩
  have HX2 : Hid (Bx V.drew (w.heap.size + 1) 25 #[.int .i64 0, .slice none 0 0, .slice none 0 0, .bool false]) := Lib.hid X2
  clear X1 X2 B1 x0 x1 x2 x3
  go_region_held3 (fun W => W.cell? ⟨w.heap.size, 0, none⟩ = some (.int .i64 sz) ∧ W.cell? ⟨w.heap.size, 1, none⟩ = some (.slice kA n kc) ∧ W.cell? ⟨w.heap.size, 2, none⟩ = some (.slice wA m wc) ∧ W.cell? ⟨w.heap.size, 3, none⟩ = some (.bool false) ∧ Below w.heap.size w W)
    (first
      | assumption
      | exact next5' S0 (by assumption)
      | exact next5' (by assumption) (by assumption)
      | exact S0
      | (refine ⟨?_, ?_, ?_, ?_, ?_⟩; (simp [go_sem, *]); (simp [go_sem, *]); (simp [go_sem, *]); (simp [go_sem, *]); (exact four_below (And.right (And.right (And.right (And.right (by assumption))))) (by omega) _ _ _ _)))
    (first
      | (go_at_call 28; (with_reducible refine (HI.out _ (S0).2.2.2.2).mono ?_); rintro e w' ⟨A', c', rfl, hr, hnw, hb'⟩; obtain ⟨y0, y1, y2, y3⟩ := (HX2.out.below (W' := w') hb').four; have y4 := (HX2.out.below (W' := w') hb').frozen))
  rename_i hS
  have B9 := hS.2.2.2.2
  have R9 := hr.four (hnw.ne HX2.out.lt) (.int .i64 sz) (.slice A' n c') (.slice none 0 0) (.bool false)
  go_wp2_with fail
  exact bodyPost_ret (v := .tuple #[.agg #[.int .i64 sz, .slice A' n c', .slice none 0 0, .bool false], .int .i64 0]) (by simp [results, Try.results21, go_sem, *]) rfl ⟨A', c', rfl, R9, B9⟩
end Go.Proofs.Ytpkoonokagchgaa
