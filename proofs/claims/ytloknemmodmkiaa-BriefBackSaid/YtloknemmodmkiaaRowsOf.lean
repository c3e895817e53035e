/- Rows of events, and rows of briefs that a call makes itself. Condition: the cells lie where they are said to lie. -/
import Derived.Test.YtloknemmodmkiaaFold
import Derived.Test.YtloknemmodmkiaaOpen
import Derived.Laws.AppendOwn
import Derived.Laws.OwnMore
import Derived.OwnWalk
namespace Go.Proofs.Ytloknemmodmkiaa
open Go.ChangeShapes Go.WideShapes Go.ChangeAt Go.RowKit

def bcells (x : Br) : List Value := [.int .i64 x.f, .int .i64 x.l, .int .u32 x.g, .int .u32 x.r, .int .u64 x.m, .bool x.k]
theorem bcells_length (x : Br) : (bcells x).length = 6 := rfl
theorem bcells_one (x : Br) : ∀ u ∈ bcells x, u.oneCell' = true := by
  intro u hu
  simp only [bcells, List.mem_cons, List.not_mem_nil, or_false] at hu
  rcases hu with rfl | rfl | rfl | rfl | rfl | rfl <;> rfl
theorem flat_at (bs : List Br) (i : Nat) (x : Br) (h : bs[i]? = some x) (j : Nat) (hj : j < 6) : (bs.flatMap bcells)[i * 6 + j]? = (bcells x)[j]? := by
  induction bs generalizing i with
  | nil => simp at h
  | cons y bs ih =>
    rw [List.flatMap_cons]
    cases i with
    | zero =>
      simp only [List.getElem?_cons_zero, Option.some.injEq] at h
      subst h
      rw [Nat.zero_mul, Nat.zero_add, List.getElem?_append_left (by rw [bcells_length]; exact hj)]
    | succ i =>
      rw [List.getElem?_cons_succ] at h
      rw [List.getElem?_append_right (by rw [bcells_length]; omega), bcells_length, show (i + 1) * 6 + j - 6 = i * 6 + j by omega]
      exact ih i h
theorem info30 : (Try.prog.info? 30).map (fun i => (i.zero, i.size, i.bytes)) = some (some (.agg #[.int .i64 0, .int .i64 0, .int .u32 0, .int .u32 0, .int .u64 0, .bool false]), 6, 40) := by kernel_rfl
theorem info_of {z : Value} {s b : Nat} {t : TypeId} (h : (Try.prog.info? t).map (fun i => (i.zero, i.size, i.bytes)) = some (some z, s, b)) : ∃ i, Try.prog.info? t = some i ∧ i.zero = some z ∧ i.size = s ∧ i.bytes = b := by
  cases hi : Try.prog.info? t with
  | none => rw [hi] at h; cases h
  | some j => rw [hi] at h; simp only [Option.map_some, Option.some.injEq, Prod.mk.injEq] at h; exact ⟨j, rfl, h.1, h.2.1, h.2.2⟩
theorem own_brs {W : World} {base : Nat} {v : Value} {n : Nat} {bs : List Br} (h : W.ownsRow base 30 6 v n (bs.flatMap bcells)) : ∃ A c, v = .slice A n c ∧ BrsAt W A n bs := by
  have hl : bs.length = n := by
    have h1 := h.1
    have : (bs.flatMap bcells).length = bs.length * 6 := by
      clear h h1
      induction bs with
      | nil => rfl
      | cons x bs ih => rw [List.flatMap_cons, List.length_append, ih, bcells_length, List.length_cons]; omega
    omega
  rcases h.2 with ⟨rfl, rfl⟩ | ⟨g, cap, cur, rfl, _, hh, _⟩
  · exact ⟨none, 0, rfl, hl, fun h0 => by omega⟩
  · refine ⟨_, cap, rfl, hl, fun _ => ⟨g, 0, rfl, (Array.getElem?_eq_some_iff.1 hh).1, fun i x hx => ?_⟩⟩
    have hi : i < n := by rw [← hl]; exact (List.getElem?_eq_some_iff.1 hx).1
    have ha : ∀ j, j < 6 → W.cell? ⟨g, 0 + i * 6 + j, none⟩ = (bcells x)[j]? := fun j hj => by
      rw [Nat.zero_add, h.cellAt (i * 6 + j) (by omega), flat_at bs i x hx j hj]
    exact ⟨ha 0 (by decide), ha 1 (by decide), ha 2 (by decide), ha 3 (by decide), ha 4 (by decide), ha 5 (by decide)⟩
theorem grown_of_below {W W' : World} (hb : Below W.heap.size W W') (r : Option Nat) : W.grownBy W' r := ⟨hb.os, hb.tape, hb.output, hb.size, fun k hk _ => hb.block k hk⟩
theorem owns_below {W W' : World} {base : Nat} {e : TypeId} {size : Nat} {v : Value} {n : Nat} {xs : List Value} (h : W.ownsRow base e size v n xs) (hb : Below W.heap.size W W') : W'.ownsRow base e size v n xs :=
  h.kept (grown_of_below hb none) (by cases v.ownBlock <;> simp)
theorem cells_new (W : World) (cs : Array Value) (t : TypeId) : ∀ j u, cs.toList[j]? = some u → (W.alloc (.cells cs t)).cell? ((⟨W.heap.size, 0, none⟩ : Addr).add j) = some u := by
  intro j u hu
  have hadd : (⟨W.heap.size, 0, none⟩ : Addr).add j = ⟨W.heap.size, j, none⟩ := by unfold Addr.add; split <;> simp_all
  rw [hadd, cell_of_row _ _ _ cs t (0, 0) (heap_alloc_last W _), ← hu, Array.getElem?_toList]

/-- A variable that holds a query. -/
def Box4 (W : World) (B : Nat) (q : Qu) : Prop := W.heap[B]? = some (.cells #[.int .i64 q.f, .int .i64 q.l, .int .u32 q.g, .int .u32 q.r] 24 (0, 0))
theorem Box4.lt {W : World} {B : Nat} {x : Qu} (h : Box4 W B x) : B < W.heap.size := (Array.getElem?_eq_some_iff.1 h).1
theorem Box4.cells {W : World} {B : Nat} {q : Qu} (h : Box4 W B q) : W.cell? ⟨B, 0, none⟩ = some (.int .i64 q.f) ∧ W.cell? ⟨B, 1, none⟩ = some (.int .i64 q.l) ∧ W.cell? ⟨B, 2, none⟩ = some (.int .u32 q.g) ∧ W.cell? ⟨B, 3, none⟩ = some (.int .u32 q.r) :=
  ⟨cell_of_row W B 0 _ 24 (0, 0) h, cell_of_row W B 1 _ 24 (0, 0) h, cell_of_row W B 2 _ 24 (0, 0) h, cell_of_row W B 3 _ 24 (0, 0) h⟩
theorem Box4.new (W : World) (q : Qu) : Box4 (W.alloc (.cells #[.int .i64 q.f, .int .i64 q.l, .int .u32 q.g, .int .u32 q.r] 24)) W.heap.size q := heap_alloc_last W _
theorem Box4.below {W W' : World} {B : Nat} {x : Qu} (h : Box4 W B x) (hb : Below W.heap.size W W') : Box4 W' B x := (hb.block B h.lt).trans h

/-- A row of events. -/
def EvsAt (W : World) (A : Option Addr) (n : Nat) (es : List Ev) : Prop :=
  es.length = n ∧ (0 < n → ∃ b off, A = some ⟨b, off, none⟩ ∧ b < W.heap.size ∧ ∀ i e, es[i]? = some e → W.cell? ⟨b, off + i * 10, none⟩ = some (.int .i64 e.g) ∧ W.cell? ⟨b, off + i * 10 + 1, none⟩ = some (.int .i64 e.f) ∧ W.cell? ⟨b, off + i * 10 + 2, none⟩ = some (.bool e.t) ∧ W.cell? ⟨b, off + i * 10 + 3, none⟩ = some (.int .i64 e.a) ∧ W.cell? ⟨b, off + i * 10 + 4, none⟩ = some (.string e.ho) ∧ W.cell? ⟨b, off + i * 10 + 5, none⟩ = some (.string e.ap) ∧ W.cell? ⟨b, off + i * 10 + 6, none⟩ = some (.string e.pr) ∧ W.cell? ⟨b, off + i * 10 + 7, none⟩ = some (.string e.id) ∧ W.cell? ⟨b, off + i * 10 + 8, none⟩ = some (.slice e.la e.ln e.lc) ∧ W.cell? ⟨b, off + i * 10 + 9, none⟩ = some (.string e.tx))
theorem EvsAt.below {W W' : World} {A : Option Addr} {n : Nat} {es : List Ev} (h : EvsAt W A n es) (hb : Below W.heap.size W W') : EvsAt W' A n es := by
  refine ⟨h.1, fun h0 => ?_⟩
  obtain ⟨b, off, rfl, hlt, hc⟩ := h.2 h0
  refine ⟨b, off, rfl, Nat.lt_of_lt_of_le hlt hb.size, fun i x hx => ?_⟩
  obtain ⟨c0, c1, c2, c3, c4, c5, c6, c7, c8, c9⟩ := hc i x hx
  have hk := (bcell hb).1
  exact ⟨(hk _ _ hlt).trans c0, (hk _ _ hlt).trans c1, (hk _ _ hlt).trans c2, (hk _ _ hlt).trans c3, (hk _ _ hlt).trans c4, (hk _ _ hlt).trans c5, (hk _ _ hlt).trans c6, (hk _ _ hlt).trans c7, (hk _ _ hlt).trans c8, (hk _ _ hlt).trans c9⟩
def evBr (e : Ev) : Br := ofB e.g e.f e.a false
end Go.Proofs.Ytloknemmodmkiaa
