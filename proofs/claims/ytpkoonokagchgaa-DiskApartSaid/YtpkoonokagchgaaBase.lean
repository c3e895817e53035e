/- Worlds, rows and a disk in memory; what the small functions of package disk answer, for every argument. No conditions but what each theorem says. -/
import Derived.Test.YtpkoonokagchgaaRows
import Derived.Test.YtpkoonokagchgaaDk
import Derived.WalkKit
import Derived.ProofKit
import Derived.Below
import Derived.Lib.Hide
import Derived.Deep.QuietTactic
import Derived.BigQuiet
import Derived.Deep.RegionHeld3
import Derived.Laws.StructEq
import Derived.Laws.Small
import Derived.RegionTactic
import Derived.ChangeAlike
import Derived.LoopTactic
import Derived.Laws.Tables
import Derived.Deep.WholeRow
import Derived.Laws.AppendOwn
import Derived.Laws.OwnMore
import Derived.OwnWalk
import Derived.ArgAppend
namespace Go.Proofs.Ytpkoonokagchgaa
open Go.ChangeShapes Go.WideShapes Go.ChangeAt Go.RowKit

/-! ### worlds -/
theorem bcell {W w1 : World} (hb : Below W.heap.size W w1) : (∀ b o, b < W.heap.size → w1.cell? ⟨b, o, none⟩ = W.cell? ⟨b, o, none⟩) ∧ (∀ b o, b < W.heap.size → w1.frozen? ⟨b, o, none⟩ = W.frozen? ⟨b, o, none⟩) :=
  ⟨fun b o h => hb.cell (p := ⟨b, o, none⟩) h, fun b o h => hb.frozen (p := ⟨b, o, none⟩) h⟩
theorem drewN_below (w : World) (n : Nat) : Below w.heap.size w (w.drewN n) := ⟨rfl, rfl, rfl, Nat.le_refl _, fun _ _ => rfl⟩
theorem drew_below (w : World) : Below w.heap.size w w.drew := drewN_below w 1
theorem alloc_below (w : World) (o : Obj) : Below w.heap.size w (w.alloc o) := (Below.refl _ _).alloc (Nat.le_refl _) _
theorem below_trans {a b c : World} (h : Below a.heap.size a b) (k : Below b.heap.size b c) : Below a.heap.size a c := h.trans (k.mono h.size)

/-- A block of one's own. -/
def Bx (W : World) (B : Nat) (t : TypeId) (cs : Array Value) : Prop := W.heap[B]? = some (.cells cs t (0, 0))

theorem Bx.lt {W : World} {B : Nat} {t : TypeId} {cs : Array Value} (h : Bx W B t cs) : B < W.heap.size := (Array.getElem?_eq_some_iff.1 h).1
theorem Bx.cell {W : World} {B : Nat} {t : TypeId} {cs : Array Value} (h : Bx W B t cs) (j : Nat) {v : Value} (hv : cs[j]? = some v) : W.cell? ⟨B, j, none⟩ = some v := by
  rw [cell_of_row W B j cs t (0, 0) h, hv]
theorem Bx.frozen {W : World} {B : Nat} {t : TypeId} {cs : Array Value} (h : Bx W B t cs) (j : Nat) : W.frozen? ⟨B, j, none⟩ = false := frozen_of_row W B j cs t h
theorem Bx.new (W : World) (t : TypeId) (cs : Array Value) : Bx (W.alloc (.cells cs t)) W.heap.size t cs := heap_alloc_new W _
theorem Bx.below {W W' : World} {B : Nat} {t : TypeId} {cs : Array Value} (h : Bx W B t cs) (hb : Below W.heap.size W W') : Bx W' B t cs := (hb.block B h.lt).trans h
theorem Bx.set {W : World} {B : Nat} {t : TypeId} {cs : Array Value} (h : Bx W B t cs) (j : Nat) (u : Value) : Bx (W.setCell ⟨B, j, none⟩ u) B t (cs.setIfInBounds j u) := heap_setCell_same W B j cs t u h
theorem Bx.other {W : World} {B : Nat} {t : TypeId} {cs : Array Value} (h : Bx W B t cs) {a : Addr} (ha : B ≠ a.block) (u : Value) : Bx (W.setCell a u) B t cs := (heap_setCell_other W a B u ha).trans h

/-- A row lies where A points: nothing is said of an empty one. -/
def CellsAt (W : World) (A : Option Addr) (cs : List Value) : Prop :=
  0 < cs.length → ∃ b off, A = some ⟨b, off, none⟩ ∧ b < W.heap.size ∧ ∀ j u, cs[j]? = some u → W.cell? ⟨b, off + j, none⟩ = some u

theorem CellsAt.nil (W : World) (A : Option Addr) : CellsAt W A [] := fun h => absurd h (by simp)
theorem CellsAt.below {W W' : World} {A : Option Addr} {cs : List Value} (h : CellsAt W A cs) (hb : Below W.heap.size W W') : CellsAt W' A cs := fun hl => by
  obtain ⟨b, off, h1, h2, h3⟩ := h hl
  exact ⟨b, off, h1, Nat.lt_of_lt_of_le h2 hb.size, fun j u hu => ((bcell hb).1 _ _ h2).trans (h3 j u hu)⟩
theorem CellsAt.get {W : World} {A : Option Addr} {cs : List Value} (h : CellsAt W A cs) {j : Nat} {u : Value} (hj : cs[j]? = some u) :
    ∃ b off, A = some ⟨b, off, none⟩ ∧ b < W.heap.size ∧ ∀ j u, cs[j]? = some u → W.cell? ⟨b, off + j, none⟩ = some u :=
  h (Nat.lt_of_le_of_lt (Nat.zero_le _) (List.getElem?_eq_some_iff.1 hj).1)

/-! ### cells of texts and of writes -/
def wcells (x : Wr) : List Value := [.int .i64 x.p, .string x.s]
def tcells (l : List ByteArray) : List Value := l.map .string
def wrcells (l : List Wr) : List Value := l.flatMap wcells

theorem tcells_length (l : List ByteArray) : (tcells l).length = l.length := by simp [tcells]
theorem wrcells_length (l : List Wr) : (wrcells l).length = l.length * 2 := by
  induction l with
  | nil => rfl
  | cons x l ih => simp only [wrcells, List.flatMap_cons, List.length_append, List.length_cons] at ih ⊢; rw [ih]; simp [wcells]; omega
theorem tcells_get {l : List ByteArray} {i : Nat} {x : ByteArray} (h : l[i]? = some x) : (tcells l)[i]? = some (.string x) := by simp [tcells, h]
theorem wr_at {l : List Wr} {i : Nat} {x : Wr} (h : l[i]? = some x) : (wrcells l)[i * 2]? = some (.int .i64 x.p) ∧ (wrcells l)[i * 2 + 1]? = some (.string x.s) := by
  induction l generalizing i with
  | nil => simp at h
  | cons y l ih =>
    cases i with
    | zero => simp only [List.getElem?_cons_zero, Option.some.injEq] at h; subst h; simp [wrcells, wcells]
    | succ i =>
      simp only [List.getElem?_cons_succ] at h
      have := ih h
      have e1 : (i + 1) * 2 = i * 2 + 1 + 1 := by omega
      rw [e1]
      simpa [wrcells, wcells] using this
theorem tcells_one (l : List ByteArray) : ∀ u ∈ tcells l, u.oneCell' = true := by
  intro u hu
  simp only [tcells, List.mem_map] at hu
  obtain ⟨x, _, rfl⟩ := hu
  rfl
theorem wrcells_one (l : List Wr) : ∀ u ∈ wrcells l, u.oneCell' = true := by
  intro u hu
  simp only [wrcells, List.mem_flatMap, wcells, List.mem_cons, List.not_mem_nil, or_false] at hu
  obtain ⟨x, _, rfl | rfl⟩ := hu <;> rfl
theorem tcells_append (a b : List ByteArray) : tcells (a ++ b) = tcells a ++ tcells b := by simp [tcells]
theorem wrcells_append (a b : List Wr) : wrcells (a ++ b) = wrcells a ++ wrcells b := by simp [wrcells]

/-! ### a disk in memory -/
structure At (W : World) (d : Dk) (kA : Option Addr) (kc : Nat) (wA : Option Addr) (wc : Nat) : Prop where
  ks : CellsAt W kA (tcells d.ks)
  ws : CellsAt W wA (wrcells d.ws)
  kn : kA = none → d.ks.length = 0 ∧ kc = 0
  wn : wA = none → d.ws.length = 0 ∧ wc = 0
  kl : d.ks.length ≤ kc
  wl : d.ws.length ≤ wc

def dval (d : Dk) (kA : Option Addr) (kc : Nat) (wA : Option Addr) (wc : Nat) : Value :=
  .agg #[.int .i64 d.sz, .slice kA d.ks.length kc, .slice wA d.ws.length wc, .bool d.off]

theorem At.below {W W' : World} {d : Dk} {kA : Option Addr} {kc : Nat} {wA : Option Addr} {wc : Nat} (h : At W d kA kc wA wc) (hb : Below W.heap.size W W') : At W' d kA kc wA wc :=
  ⟨h.ks.below hb, h.ws.below hb, h.kn, h.wn, h.kl, h.wl⟩

/-! ### within, shaped, has, reach -/
def withinB (n a b : Int) : Bool := decide (a ≤ n) && decide (n ≤ b)

theorem within_any (n a b : Int) (w : World) : Calls Try.prog 36 #[.int .i64 n, .int .i64 a, .int .i64 b] w fun e w' => e = .returned (.bool (withinB n a b)) ∧ w = w' := by
  unfold withinB
  by_cases h : a ≤ n
  · have h2 : decide (a ≤ n) = true := decide_eq_true h
    rw [h2]
    go_enter Try.func36, Try.ntmps36
    go_wp2
    go_ret
    exact ⟨by simp, rfl⟩
  · have h2 : decide (a ≤ n) = false := decide_eq_false h
    rw [h2]
    go_enter Try.func36, Try.ntmps36
    go_wp2
    go_ret
    exact ⟨by simp, rfl⟩

def shapedB (m s : Int) : Bool := withinB m 1 4096 && withinB s 96 1024

theorem shaped_any (m s : Int) (w : World) : Calls Try.prog 30 #[.int .i64 m, .int .i64 s] w fun e w' => e = .returned (.bool (shapedB m s)) ∧ w = w' := by
  unfold shapedB
  have HH := fun a b c W => Lib.hid (within_any a b c W)
  by_cases h : withinB m 1 4096 = true
  · rw [h]
    go_enter Try.func30, Try.ntmps30
    go_wp2_with fail
    refine (HH _ _ _ _).out.mono ?_
    rintro e w' ⟨rfl, rfl⟩
    rw [h]
    go_wp2_with fail
    refine (HH _ _ _ _).out.mono ?_
    rintro e w' ⟨rfl, rfl⟩
    go_wp2
    go_ret
    exact ⟨by simp, rfl⟩
  · have h := eq_false_of_ne_true h
    rw [h]
    go_enter Try.func30, Try.ntmps30
    go_wp2_with fail
    refine (HH _ _ _ _).out.mono ?_
    rintro e w' ⟨rfl, rfl⟩
    rw [h]
    go_wp2
    go_ret
    exact ⟨by simp, rfl⟩

def hasB (n : Nat) (p : Int) : Bool := decide (0 ≤ p) && decide (p < n)

theorem hasB_iff {n : Nat} {p : Int} : hasB n p = true ↔ 0 ≤ p ∧ p < n := by simp [hasB]

theorem has_any (A : Option Addr) (n c : Nat) (p : Int) (w : World) : Calls Try.prog 35 #[.slice A n c, .int .i64 p] w fun e w' => e = .returned (.bool (hasB n p)) ∧ w = w' := by
  unfold hasB
  by_cases h : p < 0
  · have h2 : decide (0 ≤ p) = false := decide_eq_false (by omega)
    rw [h2]
    go_enter Try.func35, Try.ntmps35
    go_wp2
    go_ret
    exact ⟨by simp, rfl⟩
  · have h2 : decide (0 ≤ p) = true := decide_eq_true (by omega)
    rw [h2]
    by_cases h3 : (n : Int) ≤ p
    · have h4 : decide (p < (n : Int)) = false := decide_eq_false (by omega)
      rw [h4]
      go_enter Try.func35, Try.ntmps35
      go_wp2
      go_ret
      exact ⟨by simp, rfl⟩
    · have h4 : decide (p < (n : Int)) = true := decide_eq_true (by omega)
      rw [h4]
      go_enter Try.func35, Try.ntmps35
      go_wp2
      go_ret
      exact ⟨by simp, rfl⟩

def reachE (off : Bool) (n : Nat) (p : Int) : Int := if off then 14 else if hasB n p then 0 else 5

theorem reach_any (d : Dk) (kA : Option Addr) (kc : Nat) (wA : Option Addr) (wc : Nat) (p : Int) (w : World) :
    Calls Try.prog 39 #[dval d kA kc wA wc, .int .i64 p] w fun e w' => e = .returned (.int .i64 (reachE d.off d.ks.length p)) ∧ Below w.heap.size w w' := by
  unfold reachE dval
  have HH := fun A n c p W => Lib.hid (has_any A n c p W)
  cases h : d.off
  · cases h2 : hasB d.ks.length p
    · go_enter Try.func39, Try.ntmps39
      go_wp2_with fail
      refine (HH _ _ _ _ _).out.mono ?_
      rintro e w' ⟨rfl, rfl⟩
      rw [h2]
      go_wp2
      go_ret
      exact ⟨by simp, alloc_below _ _⟩
    · go_enter Try.func39, Try.ntmps39
      go_wp2_with fail
      refine (HH _ _ _ _ _).out.mono ?_
      rintro e w' ⟨rfl, rfl⟩
      rw [h2]
      go_wp2
      go_ret
      exact ⟨by simp, alloc_below _ _⟩
  · go_enter Try.func39, Try.ntmps39
    go_wp2
    go_ret
    exact ⟨by simp, alloc_below _ _⟩
end Go.Proofs.Ytpkoonokagchgaa
