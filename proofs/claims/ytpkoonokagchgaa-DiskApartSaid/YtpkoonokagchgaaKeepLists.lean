/- What a crash leaves of a disk without writes, and of one whose writes are all kept, as lists; a row of numbers of one's own; a box of a disk without writes. -/
import Derived.Test.YtpkoonokagchgaaLaw
namespace Go.Proofs.Ytpkoonokagchgaa
open Go.ChangeShapes Go.WideShapes Go.ChangeAt Go.RowKit Go.Joins

theorem tears_all {ws : List Wr} {N : Int} (h : ∀ x ∈ ws, (x.s.size : Int) ≤ N) : tears ws (List.replicate ws.length N) = ws := by
  induction ws with
  | nil => rfl
  | cons w ws ih =>
    rw [List.length_cons, List.replicate_succ]
    show tear w N :: tears ws (List.replicate ws.length N) = w :: ws
    rw [tear_all (h w (by simp)), ih (fun x hx => h x (by simp [hx]))]
theorem crash_all {d : Dk} (hd : Ok d) : crashD d (List.replicate d.ws.length 1099511627776) = imageD d := by
  unfold crashD imageD
  rw [tears_all (fun x hx => by have := (hd.w x hx).2.2.2; have := hd.s2; omega)]
theorem crash_wiped (d : Dk) (l : List ByteArray) (ks : List Int) : crashD (wipe d l) ks = l := by
  show image l (tears [] ks) = l
  cases ks <;> rfl
theorem image_wiped (d : Dk) (l : List ByteArray) : imageD (wipe d l) = l := rfl

theorem info3 : ∃ i, Try.prog.info? 3 = some i ∧ i.zero = some (.int .i64 0) ∧ i.size = 1 ∧ i.bytes = 8 := by
  have h : (Try.prog.info? 3).map (fun i => (i.zero, i.size, i.bytes)) = some (some (.int .i64 0), 1, 8) := by kernel_rfl
  cases hi : Try.prog.info? 3 with
  | none => rw [hi] at h; simp at h
  | some i => rw [hi] at h; simp only [Option.map_some, Option.some.injEq, Prod.mk.injEq] at h; exact ⟨i, rfl, h.1, h.2.1, h.2.2⟩

theorem rep_icells (N : Int) (k : Nat) : List.replicate k (Value.int .i64 N) = icells (List.replicate k N) := by simp [icells]
theorem rowI_own {W : World} {base : Nat} {A : Option Addr} {n c : Nat} {l : List Int} (h : W.ownsRow base 3 1 (.slice A n c) n (icells l)) (hn : n = l.length) : RowI W A c l ∧ c ≤ 9223372036854775807 := by
  subst hn
  refine ⟨⟨(own_cells h).1, (own_cells h).2.1, (own_cells h).2.2⟩, ?_⟩
  rcases h.2 with ⟨h1, _⟩ | ⟨g, cap, cur, h1, _, _, _, hm, _, _⟩
  · simp only [Value.slice.injEq] at h1
    omega
  · simp only [Value.slice.injEq] at h1
    unfold maxLen at hm
    omega

/-- A disk without writes, in a box. -/
structure BR (W : World) (r : Nat) (sz : Int) (n : Nat) (A : Option Addr) (c : Nat) (L : List ByteArray) : Prop where
  x : Bx W r 25 #[.int .i64 sz, .slice A n c, .slice none 0 0, .bool false]
  t : RowT W A c L
theorem BR.below {W W' : World} {r : Nat} {sz : Int} {n : Nat} {A : Option Addr} {c : Nat} {L : List ByteArray} (h : BR W r sz n A c L) (hb : Below W.heap.size W W') : BR W' r sz n A c L := ⟨h.x.below hb, h.t.below hb⟩
theorem BR.new {W : World} {A : Option Addr} {c : Nat} {L : List ByteArray} (h : RowT W A c L) (sz : Int) (n : Nat) : BR (W.alloc (.cells #[.int .i64 sz, .slice A n c, .slice none 0 0, .bool false] 25)) W.heap.size sz n A c L :=
  ⟨Bx.new W 25 _, h.below (alloc_below W _)⟩

/-- Four cells of a box. -/
abbrev FourAt (r : Nat) (v0 v1 v2 v3 : Value) (W : World) : Prop := W.cell? ⟨r, 0, none⟩ = some v0 ∧ W.cell? ⟨r, 1, none⟩ = some v1 ∧ W.cell? ⟨r, 2, none⟩ = some v2 ∧ W.cell? ⟨r, 3, none⟩ = some v3
theorem four_next {r : Nat} {v0 v1 v2 v3 : Value} {W W' : World} (h : FourAt r v0 v1 v2 v3 W) (hb : Below W.heap.size W W') : FourAt r v0 v1 v2 v3 W' :=
  ⟨(hb.cell (cell_lt h.1)).trans h.1, (hb.cell (cell_lt h.2.1)).trans h.2.1, (hb.cell (cell_lt h.2.2.1)).trans h.2.2.1, (hb.cell (cell_lt h.2.2.2)).trans h.2.2.2⟩
end Go.Proofs.Ytpkoonokagchgaa
