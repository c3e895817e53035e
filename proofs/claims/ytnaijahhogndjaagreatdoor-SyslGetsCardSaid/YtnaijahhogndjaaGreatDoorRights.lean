/-
  SyslRight returns true for every event and number: with a word that is empty, without its elements, or its text, without its time, or with the first of its elements alone, a right event stays right.
  Conditions: none (every input); the listed variables stand as the program's text lays them (the card ties them).
-/
import Derived.Test.YtnaijahhogndjaaGreatDoorShown
namespace Go.Proofs.YtnaijahhogndjaaGreatDoor.syslRight
open Go.ChangeShapes Go.WideShapes Go.ChangeAt Go.RowKit

theorem right_zero (e : Ev) : rightE e = 0 ↔ ((0 ≤ e.grave ∧ e.grave ≤ 7) ∧ (0 ≤ e.from' ∧ e.from' ≤ 23) ∧ timeB e.timed e.at' = true) ∧ (wordsB e = true ∧ dataB e.data = true ∧ Lib.validD e.text.data.toList = true) ∧ ¬ (64 < e.data.length ∨ e.data.any longB = true) := by
  unfold rightE
  split
  · rename_i h; exact ⟨fun h' => (by cases h'), fun h' => absurd h'.1 h⟩
  · rename_i h1
    split
    · rename_i h; exact ⟨fun h' => (by cases h'), fun h' => absurd h'.2.1 h⟩
    · rename_i h2
      split
      · rename_i h; exact ⟨fun h' => (by cases h'), fun h' => absurd h h'.2.2⟩
      · rename_i h3; exact ⟨fun _ => ⟨Classical.not_not.1 h1, Classical.not_not.1 h2, h3⟩, fun _ => rfl⟩
theorem data_take {es : List Elm} (h : dataB es = true) (k : Nat) : dataB (es.take k) = true := by
  unfold dataB at h ⊢
  rw [Bool.and_eq_true, List.all_eq_true, decide_eq_true_iff] at h ⊢
  refine ⟨fun x hx => h.1 x (List.mem_of_mem_take hx), ?_⟩
  rw [List.map_take]
  exact h.2.sublist (List.take_sublist _ _)
theorem any_take {es : List Elm} (h : ¬ es.any longB = true) (k : Nat) : ¬ (es.take k).any longB = true := by
  intro h'
  rw [List.any_eq_true] at h h'
  obtain ⟨x, hx, hl⟩ := h'
  exact h ⟨x, List.mem_of_mem_take hx, hl⟩
variable {g f a : Int} {t : Bool} {ho ap pr id tx : ByteArray} {da : List Elm}
theorem ra (h : rightE ⟨g, f, t, a, ho, ap, pr, id, da, tx⟩ = 0) : rightE ⟨g, f, t, a, ⟨#[]⟩, ap, ⟨#[]⟩, id, da, tx⟩ = 0 := by
  rw [right_zero] at h ⊢
  refine ⟨h.1, ⟨?_, h.2.1.2⟩, h.2.2⟩
  have hw := h.2.1.1
  unfold wordsB at hw ⊢
  simp only [Bool.and_eq_true] at hw ⊢
  exact ⟨by decide, hw.2.1, by decide, hw.2.2.2⟩
theorem rb (h : rightE ⟨g, f, t, a, ho, ap, pr, id, da, tx⟩ = 0) : rightE ⟨g, f, t, a, ho, ap, pr, id, [], tx⟩ = 0 := by
  rw [right_zero] at h ⊢
  exact ⟨h.1, ⟨h.2.1.1, show dataB [] = true by decide, h.2.1.2.2⟩, by simp⟩
theorem rc (h : rightE ⟨g, f, t, a, ho, ap, pr, id, da, tx⟩ = 0) : rightE ⟨g, f, t, a, ho, ap, pr, id, da, ⟨#[]⟩⟩ = 0 := by
  rw [right_zero] at h ⊢
  exact ⟨h.1, ⟨h.2.1.1, h.2.1.2.1, show Lib.validD [] = true by decide⟩, h.2.2⟩
theorem rd (h : rightE ⟨g, f, t, a, ho, ap, pr, id, da, tx⟩ = 0) : rightE ⟨g, f, false, 0, ho, ap, pr, id, da, tx⟩ = 0 := by
  rw [right_zero] at h ⊢
  exact ⟨⟨h.1.1, h.1.2.1, show timeB false 0 = true by decide⟩, h.2⟩
theorem rn (h : rightE ⟨g, f, t, a, ho, ap, pr, id, da, tx⟩ = 0) (k : Nat) : rightE ⟨g, f, t, a, ho, ap, pr, id, da.take k, tx⟩ = 0 := by
  rw [right_zero] at h ⊢
  refine ⟨h.1, ⟨h.2.1.1, data_take h.2.1.2.1 k, h.2.1.2.2⟩, ?_⟩
  rintro (h' | h')
  · simp only [List.length_take] at h'
    exact h.2.2 (.inl (by simp only; omega))
  · exact any_take (fun hx => h.2.2 (.inr hx)) k h'
theorem rok {R : Int} {dv : Value} {W : World} (h : rightE ⟨g, f, t, a, ho, ap, pr, id, da, tx⟩ = R) (hS : Std W) (hI : Ev.In ⟨g, f, t, a, ho, ap, pr, id, da, tx⟩ W dv) :
    Calls Tryz.prog 15 #[.agg #[.int .i64 g, .int .i64 f, .bool t, .int .i64 a, .string ho, .string ap, .string pr, .string id, dv, .string tx]] W fun r w' => r = .returned (.int .i64 R) ∧ Below W.heap.size W w' := by
  have := right_any ⟨g, f, t, a, ho, ap, pr, id, da, tx⟩ dv W hS hI
  rw [h] at this
  exact this
theorem elms_take {w : World} {la : Option Addr} {n lc : Nat} {es : List Elm} (h : ElmsAt w (.slice la n lc) es) (k : Nat) (hk : k ≤ n) : ElmsAt w (.slice la k lc) (es.take k) := by
  obtain ⟨la', lc', e, hm⟩ := h
  cases e
  have hl : (es.take k).length = k := by rw [List.length_take]; omega
  refine ⟨la, lc, by rw [hl], fun h0 => ?_⟩
  obtain ⟨b, o, h1, h2, h3⟩ := hm (by omega)
  refine ⟨b, o, h1, h2, fun j e he => h3 j e ?_⟩
  rw [List.getElem?_take] at he
  split at he
  · exact he
  · cases he
/-- A block holds these cells. -/
def Blk (W : World) (b : Nat) (cs : Array Value) : Prop := b < W.heap.size ∧ ∀ o, W.cell? ⟨b, o, none⟩ = cs[o]?
theorem Blk.below {W W' : World} {b : Nat} {cs : Array Value} (h : Blk W b cs) (hb : Below W.heap.size W W') : Blk W' b cs :=
  ⟨Nat.lt_of_lt_of_le h.1 hb.size, fun o => ((bcell hb).1 b o h.1).trans (h.2 o)⟩
theorem Blk.alloc {W : World} {b : Nat} {cs : Array Value} (h : Blk W b cs) (o : Obj) : Blk (W.alloc o) b cs := h.below ((Below.refl _ _).alloc (Nat.le_refl _) o)
theorem Blk.new (W : World) (cs : Array Value) (t : TypeId) : Blk (W.alloc (.cells cs t)) W.heap.size cs :=
  ⟨by simp, fun o => by rw [cell_of_row _ _ _ cs t (0, 0) (heap_alloc_last W _)]⟩
set_option maxHeartbeats 4000000 in
set_option maxRecDepth 100000 in
theorem walk (dv : Value) (i : Int) (w : World) (hS : Std w) (hm : Max w) (hI : Ev.In ⟨g, f, t, a, ho, ap, pr, id, da, tx⟩ w dv) (hcap : ∃ la lc, dv = .slice la da.length lc ∧ da.length ≤ lc ∧ lc ≤ 9223372036854775807) :
    Calls Tryz.prog 7 #[.agg #[.int .i64 g, .int .i64 f, .bool t, .int .i64 a, .string ho, .string ap, .string pr, .string id, dv, .string tx], .int .i64 i] w
      fun e w' => e = .returned (.bool true) ∧ Below w.heap.size w w' := by
  obtain ⟨la, lc, rfl, hcl, hcm⟩ := hcap
  have hlen : da.length ≤ 17592186044416 := hI.fits.1
  have hb : Below w.heap.size w (w.alloc (.cells #[.int .i64 g, .int .i64 f, .bool t, .int .i64 a, .string ho, .string ap, .string pr, .string id, .slice la da.length lc, .string tx] 24)) := (Below.refl _ _).alloc (Nat.le_refl _) _
  have hS1 := hS.below hb
  have hm1 := hm.below hb
  have hI1 := hI.below hb
  go_enter Tryz.func7, Tryz.ntmps7
  go_wp2_with fail
  refine (shown_any _ hS1 hm1).mono ?_
  rintro r w2 ⟨rfl, hb2⟩
  have B2 := hb.trans (hb2.mono hb.size)
  have hS2 := hS1.below hb2
  have hI2 := hI1.below hb2
  obtain ⟨hc2, hf2⟩ := bcell hb2
  have hz2 : w.heap.size < w2.heap.size := by have := hb2.size; simp at this; omega
  have bE2 := (Blk.new w #[.int .i64 g, .int .i64 f, .bool t, .int .i64 a, .string ho, .string ap, .string pr, .string id, .slice la da.length lc, .string tx] 24).below hb2
  clear hb hb2 hS hS1 hm hm1 hI hI1
  obtain ⟨R, hR⟩ : ∃ R, rightE ⟨g, f, t, a, ho, ap, pr, id, da, tx⟩ = R := ⟨_, rfl⟩
  have HR := Lib.hid hR
  go_wp2_with fail
  refine (rok hR hS2 hI2).mono ?_
  rintro r w3 ⟨rfl, hb3⟩
  have B3 := B2.trans (hb3.mono B2.size)
  have hS3 := hS2.below hb3
  have hI3 := hI2.below hb3
  obtain ⟨hc3, hf3⟩ := bcell hb3
  have hz3 : w.heap.size < w3.heap.size := Nat.lt_of_lt_of_le hz2 hb3.size
  have bE := bE2.below hb3
  clear hS2 hI2 B2 hR hb3 bE2
  by_cases h0 : R = 0
  · subst h0
    have esz : (⟨#[]⟩ : ByteArray).size ≤ 140737488355328 := by decide
    have c0x0 : w3.cell? ⟨w.heap.size, 0, none⟩ = some (.int .i64 g) := by have := bE.2 0; simpa using this
    have c0x1 : w3.cell? ⟨w.heap.size, 1, none⟩ = some (.int .i64 f) := by have := bE.2 1; simpa using this
    have c0x2 : w3.cell? ⟨w.heap.size, 2, none⟩ = some (.bool t) := by have := bE.2 2; simpa using this
    have c0x3 : w3.cell? ⟨w.heap.size, 3, none⟩ = some (.int .i64 a) := by have := bE.2 3; simpa using this
    have c0x4 : w3.cell? ⟨w.heap.size, 4, none⟩ = some (.string ho) := by have := bE.2 4; simpa using this
    have c0x5 : w3.cell? ⟨w.heap.size, 5, none⟩ = some (.string ap) := by have := bE.2 5; simpa using this
    have c0x6 : w3.cell? ⟨w.heap.size, 6, none⟩ = some (.string pr) := by have := bE.2 6; simpa using this
    have c0x7 : w3.cell? ⟨w.heap.size, 7, none⟩ = some (.string id) := by have := bE.2 7; simpa using this
    have c0x8 : w3.cell? ⟨w.heap.size, 8, none⟩ = some (.slice la da.length lc) := by have := bE.2 8; simpa using this
    have c0x9 : w3.cell? ⟨w.heap.size, 9, none⟩ = some (.string tx) := by have := bE.2 9; simpa using this
    have c1x0 : ∀ (p0 : Obj), (w3.alloc p0).cell? ⟨w.heap.size, 0, none⟩ = some (.int .i64 g) := fun p0 => (((bE.alloc p0)).2 0).trans rfl
    have c1x1 : ∀ (p0 : Obj), (w3.alloc p0).cell? ⟨w.heap.size, 1, none⟩ = some (.int .i64 f) := fun p0 => (((bE.alloc p0)).2 1).trans rfl
    have c1x2 : ∀ (p0 : Obj), (w3.alloc p0).cell? ⟨w.heap.size, 2, none⟩ = some (.bool t) := fun p0 => (((bE.alloc p0)).2 2).trans rfl
    have c1x3 : ∀ (p0 : Obj), (w3.alloc p0).cell? ⟨w.heap.size, 3, none⟩ = some (.int .i64 a) := fun p0 => (((bE.alloc p0)).2 3).trans rfl
    have c1x4 : ∀ (p0 : Obj), (w3.alloc p0).cell? ⟨w.heap.size, 4, none⟩ = some (.string ho) := fun p0 => (((bE.alloc p0)).2 4).trans rfl
    have c1x5 : ∀ (p0 : Obj), (w3.alloc p0).cell? ⟨w.heap.size, 5, none⟩ = some (.string ap) := fun p0 => (((bE.alloc p0)).2 5).trans rfl
    have c1x6 : ∀ (p0 : Obj), (w3.alloc p0).cell? ⟨w.heap.size, 6, none⟩ = some (.string pr) := fun p0 => (((bE.alloc p0)).2 6).trans rfl
    have c1x7 : ∀ (p0 : Obj), (w3.alloc p0).cell? ⟨w.heap.size, 7, none⟩ = some (.string id) := fun p0 => (((bE.alloc p0)).2 7).trans rfl
    have c1x8 : ∀ (p0 : Obj), (w3.alloc p0).cell? ⟨w.heap.size, 8, none⟩ = some (.slice la da.length lc) := fun p0 => (((bE.alloc p0)).2 8).trans rfl
    have c1x9 : ∀ (p0 : Obj), (w3.alloc p0).cell? ⟨w.heap.size, 9, none⟩ = some (.string tx) := fun p0 => (((bE.alloc p0)).2 9).trans rfl
    have c2x0 : ∀ (p0 p1 : Obj), ((w3.alloc p0).alloc p1).cell? ⟨w.heap.size, 0, none⟩ = some (.int .i64 g) := fun p0 p1 => ((((bE.alloc p0).alloc p1)).2 0).trans rfl
    have c2x1 : ∀ (p0 p1 : Obj), ((w3.alloc p0).alloc p1).cell? ⟨w.heap.size, 1, none⟩ = some (.int .i64 f) := fun p0 p1 => ((((bE.alloc p0).alloc p1)).2 1).trans rfl
    have c2x2 : ∀ (p0 p1 : Obj), ((w3.alloc p0).alloc p1).cell? ⟨w.heap.size, 2, none⟩ = some (.bool t) := fun p0 p1 => ((((bE.alloc p0).alloc p1)).2 2).trans rfl
    have c2x3 : ∀ (p0 p1 : Obj), ((w3.alloc p0).alloc p1).cell? ⟨w.heap.size, 3, none⟩ = some (.int .i64 a) := fun p0 p1 => ((((bE.alloc p0).alloc p1)).2 3).trans rfl
    have c2x4 : ∀ (p0 p1 : Obj), ((w3.alloc p0).alloc p1).cell? ⟨w.heap.size, 4, none⟩ = some (.string ho) := fun p0 p1 => ((((bE.alloc p0).alloc p1)).2 4).trans rfl
    have c2x5 : ∀ (p0 p1 : Obj), ((w3.alloc p0).alloc p1).cell? ⟨w.heap.size, 5, none⟩ = some (.string ap) := fun p0 p1 => ((((bE.alloc p0).alloc p1)).2 5).trans rfl
    have c2x6 : ∀ (p0 p1 : Obj), ((w3.alloc p0).alloc p1).cell? ⟨w.heap.size, 6, none⟩ = some (.string pr) := fun p0 p1 => ((((bE.alloc p0).alloc p1)).2 6).trans rfl
    have c2x7 : ∀ (p0 p1 : Obj), ((w3.alloc p0).alloc p1).cell? ⟨w.heap.size, 7, none⟩ = some (.string id) := fun p0 p1 => ((((bE.alloc p0).alloc p1)).2 7).trans rfl
    have c2x8 : ∀ (p0 p1 : Obj), ((w3.alloc p0).alloc p1).cell? ⟨w.heap.size, 8, none⟩ = some (.slice la da.length lc) := fun p0 p1 => ((((bE.alloc p0).alloc p1)).2 8).trans rfl
    have c2x9 : ∀ (p0 p1 : Obj), ((w3.alloc p0).alloc p1).cell? ⟨w.heap.size, 9, none⟩ = some (.string tx) := fun p0 p1 => ((((bE.alloc p0).alloc p1)).2 9).trans rfl
    have c3x0 : ∀ (p0 p1 p2 : Obj), (((w3.alloc p0).alloc p1).alloc p2).cell? ⟨w.heap.size, 0, none⟩ = some (.int .i64 g) := fun p0 p1 p2 => (((((bE.alloc p0).alloc p1).alloc p2)).2 0).trans rfl
    have c3x1 : ∀ (p0 p1 p2 : Obj), (((w3.alloc p0).alloc p1).alloc p2).cell? ⟨w.heap.size, 1, none⟩ = some (.int .i64 f) := fun p0 p1 p2 => (((((bE.alloc p0).alloc p1).alloc p2)).2 1).trans rfl
    have c3x2 : ∀ (p0 p1 p2 : Obj), (((w3.alloc p0).alloc p1).alloc p2).cell? ⟨w.heap.size, 2, none⟩ = some (.bool t) := fun p0 p1 p2 => (((((bE.alloc p0).alloc p1).alloc p2)).2 2).trans rfl
    have c3x3 : ∀ (p0 p1 p2 : Obj), (((w3.alloc p0).alloc p1).alloc p2).cell? ⟨w.heap.size, 3, none⟩ = some (.int .i64 a) := fun p0 p1 p2 => (((((bE.alloc p0).alloc p1).alloc p2)).2 3).trans rfl
    have c3x4 : ∀ (p0 p1 p2 : Obj), (((w3.alloc p0).alloc p1).alloc p2).cell? ⟨w.heap.size, 4, none⟩ = some (.string ho) := fun p0 p1 p2 => (((((bE.alloc p0).alloc p1).alloc p2)).2 4).trans rfl
    have c3x5 : ∀ (p0 p1 p2 : Obj), (((w3.alloc p0).alloc p1).alloc p2).cell? ⟨w.heap.size, 5, none⟩ = some (.string ap) := fun p0 p1 p2 => (((((bE.alloc p0).alloc p1).alloc p2)).2 5).trans rfl
    have c3x6 : ∀ (p0 p1 p2 : Obj), (((w3.alloc p0).alloc p1).alloc p2).cell? ⟨w.heap.size, 6, none⟩ = some (.string pr) := fun p0 p1 p2 => (((((bE.alloc p0).alloc p1).alloc p2)).2 6).trans rfl
    have c3x7 : ∀ (p0 p1 p2 : Obj), (((w3.alloc p0).alloc p1).alloc p2).cell? ⟨w.heap.size, 7, none⟩ = some (.string id) := fun p0 p1 p2 => (((((bE.alloc p0).alloc p1).alloc p2)).2 7).trans rfl
    have c3x8 : ∀ (p0 p1 p2 : Obj), (((w3.alloc p0).alloc p1).alloc p2).cell? ⟨w.heap.size, 8, none⟩ = some (.slice la da.length lc) := fun p0 p1 p2 => (((((bE.alloc p0).alloc p1).alloc p2)).2 8).trans rfl
    have c3x9 : ∀ (p0 p1 p2 : Obj), (((w3.alloc p0).alloc p1).alloc p2).cell? ⟨w.heap.size, 9, none⟩ = some (.string tx) := fun p0 p1 p2 => (((((bE.alloc p0).alloc p1).alloc p2)).2 9).trans rfl
    have c4x0 : ∀ (p0 p1 p2 p3 : Obj), ((((w3.alloc p0).alloc p1).alloc p2).alloc p3).cell? ⟨w.heap.size, 0, none⟩ = some (.int .i64 g) := fun p0 p1 p2 p3 => ((((((bE.alloc p0).alloc p1).alloc p2).alloc p3)).2 0).trans rfl
    have c4x1 : ∀ (p0 p1 p2 p3 : Obj), ((((w3.alloc p0).alloc p1).alloc p2).alloc p3).cell? ⟨w.heap.size, 1, none⟩ = some (.int .i64 f) := fun p0 p1 p2 p3 => ((((((bE.alloc p0).alloc p1).alloc p2).alloc p3)).2 1).trans rfl
    have c4x2 : ∀ (p0 p1 p2 p3 : Obj), ((((w3.alloc p0).alloc p1).alloc p2).alloc p3).cell? ⟨w.heap.size, 2, none⟩ = some (.bool t) := fun p0 p1 p2 p3 => ((((((bE.alloc p0).alloc p1).alloc p2).alloc p3)).2 2).trans rfl
    have c4x3 : ∀ (p0 p1 p2 p3 : Obj), ((((w3.alloc p0).alloc p1).alloc p2).alloc p3).cell? ⟨w.heap.size, 3, none⟩ = some (.int .i64 a) := fun p0 p1 p2 p3 => ((((((bE.alloc p0).alloc p1).alloc p2).alloc p3)).2 3).trans rfl
    have c4x4 : ∀ (p0 p1 p2 p3 : Obj), ((((w3.alloc p0).alloc p1).alloc p2).alloc p3).cell? ⟨w.heap.size, 4, none⟩ = some (.string ho) := fun p0 p1 p2 p3 => ((((((bE.alloc p0).alloc p1).alloc p2).alloc p3)).2 4).trans rfl
    have c4x5 : ∀ (p0 p1 p2 p3 : Obj), ((((w3.alloc p0).alloc p1).alloc p2).alloc p3).cell? ⟨w.heap.size, 5, none⟩ = some (.string ap) := fun p0 p1 p2 p3 => ((((((bE.alloc p0).alloc p1).alloc p2).alloc p3)).2 5).trans rfl
    have c4x6 : ∀ (p0 p1 p2 p3 : Obj), ((((w3.alloc p0).alloc p1).alloc p2).alloc p3).cell? ⟨w.heap.size, 6, none⟩ = some (.string pr) := fun p0 p1 p2 p3 => ((((((bE.alloc p0).alloc p1).alloc p2).alloc p3)).2 6).trans rfl
    have c4x7 : ∀ (p0 p1 p2 p3 : Obj), ((((w3.alloc p0).alloc p1).alloc p2).alloc p3).cell? ⟨w.heap.size, 7, none⟩ = some (.string id) := fun p0 p1 p2 p3 => ((((((bE.alloc p0).alloc p1).alloc p2).alloc p3)).2 7).trans rfl
    have c4x8 : ∀ (p0 p1 p2 p3 : Obj), ((((w3.alloc p0).alloc p1).alloc p2).alloc p3).cell? ⟨w.heap.size, 8, none⟩ = some (.slice la da.length lc) := fun p0 p1 p2 p3 => ((((((bE.alloc p0).alloc p1).alloc p2).alloc p3)).2 8).trans rfl
    have c4x9 : ∀ (p0 p1 p2 p3 : Obj), ((((w3.alloc p0).alloc p1).alloc p2).alloc p3).cell? ⟨w.heap.size, 9, none⟩ = some (.string tx) := fun p0 p1 p2 p3 => ((((((bE.alloc p0).alloc p1).alloc p2).alloc p3)).2 9).trans rfl
    have c5x0 : ∀ (p0 p1 p2 p3 p4 : Obj), (((((w3.alloc p0).alloc p1).alloc p2).alloc p3).alloc p4).cell? ⟨w.heap.size, 0, none⟩ = some (.int .i64 g) := fun p0 p1 p2 p3 p4 => (((((((bE.alloc p0).alloc p1).alloc p2).alloc p3).alloc p4)).2 0).trans rfl
    have c5x1 : ∀ (p0 p1 p2 p3 p4 : Obj), (((((w3.alloc p0).alloc p1).alloc p2).alloc p3).alloc p4).cell? ⟨w.heap.size, 1, none⟩ = some (.int .i64 f) := fun p0 p1 p2 p3 p4 => (((((((bE.alloc p0).alloc p1).alloc p2).alloc p3).alloc p4)).2 1).trans rfl
    have c5x2 : ∀ (p0 p1 p2 p3 p4 : Obj), (((((w3.alloc p0).alloc p1).alloc p2).alloc p3).alloc p4).cell? ⟨w.heap.size, 2, none⟩ = some (.bool t) := fun p0 p1 p2 p3 p4 => (((((((bE.alloc p0).alloc p1).alloc p2).alloc p3).alloc p4)).2 2).trans rfl
    have c5x3 : ∀ (p0 p1 p2 p3 p4 : Obj), (((((w3.alloc p0).alloc p1).alloc p2).alloc p3).alloc p4).cell? ⟨w.heap.size, 3, none⟩ = some (.int .i64 a) := fun p0 p1 p2 p3 p4 => (((((((bE.alloc p0).alloc p1).alloc p2).alloc p3).alloc p4)).2 3).trans rfl
    have c5x4 : ∀ (p0 p1 p2 p3 p4 : Obj), (((((w3.alloc p0).alloc p1).alloc p2).alloc p3).alloc p4).cell? ⟨w.heap.size, 4, none⟩ = some (.string ho) := fun p0 p1 p2 p3 p4 => (((((((bE.alloc p0).alloc p1).alloc p2).alloc p3).alloc p4)).2 4).trans rfl
    have c5x5 : ∀ (p0 p1 p2 p3 p4 : Obj), (((((w3.alloc p0).alloc p1).alloc p2).alloc p3).alloc p4).cell? ⟨w.heap.size, 5, none⟩ = some (.string ap) := fun p0 p1 p2 p3 p4 => (((((((bE.alloc p0).alloc p1).alloc p2).alloc p3).alloc p4)).2 5).trans rfl
    have c5x6 : ∀ (p0 p1 p2 p3 p4 : Obj), (((((w3.alloc p0).alloc p1).alloc p2).alloc p3).alloc p4).cell? ⟨w.heap.size, 6, none⟩ = some (.string pr) := fun p0 p1 p2 p3 p4 => (((((((bE.alloc p0).alloc p1).alloc p2).alloc p3).alloc p4)).2 6).trans rfl
    have c5x7 : ∀ (p0 p1 p2 p3 p4 : Obj), (((((w3.alloc p0).alloc p1).alloc p2).alloc p3).alloc p4).cell? ⟨w.heap.size, 7, none⟩ = some (.string id) := fun p0 p1 p2 p3 p4 => (((((((bE.alloc p0).alloc p1).alloc p2).alloc p3).alloc p4)).2 7).trans rfl
    have c5x8 : ∀ (p0 p1 p2 p3 p4 : Obj), (((((w3.alloc p0).alloc p1).alloc p2).alloc p3).alloc p4).cell? ⟨w.heap.size, 8, none⟩ = some (.slice la da.length lc) := fun p0 p1 p2 p3 p4 => (((((((bE.alloc p0).alloc p1).alloc p2).alloc p3).alloc p4)).2 8).trans rfl
    have c5x9 : ∀ (p0 p1 p2 p3 p4 : Obj), (((((w3.alloc p0).alloc p1).alloc p2).alloc p3).alloc p4).cell? ⟨w.heap.size, 9, none⟩ = some (.string tx) := fun p0 p1 p2 p3 p4 => (((((((bE.alloc p0).alloc p1).alloc p2).alloc p3).alloc p4)).2 9).trans rfl
    clear hc3 hf3 hc2 hf2
    by_cases hi : 0 ≤ i ∧ i < (da.length : Int)
    · obtain ⟨h1, h2⟩ := hi
      obtain ⟨k, rfl⟩ : ∃ k : Nat, i = (k : Int) := ⟨i.toNat, by omega⟩
      have hk : k ≤ da.length := by omega
      have hk2 : k ≤ lc := by omega
      have hk3 : (k : Int) ≤ (lc : Int) := by omega
      have bw : Below w3.heap.size w3 (((((w3.alloc (.cells #[.int .i64 g, .int .i64 f, .bool t, .int .i64 a, .string ⟨#[]⟩, .string ap, .string ⟨#[]⟩, .string id, .slice la da.length lc, .string tx] 24)).alloc (.cells #[.int .i64 g, .int .i64 f, .bool t, .int .i64 a, .string ho, .string ap, .string pr, .string id, .slice none 0 0, .string tx] 24)).alloc (.cells #[.int .i64 g, .int .i64 f, .bool t, .int .i64 a, .string ho, .string ap, .string pr, .string id, .slice la da.length lc, .string ⟨#[]⟩] 24)).alloc (.cells #[.int .i64 g, .int .i64 f, .bool false, .int .i64 0, .string ho, .string ap, .string pr, .string id, .slice la da.length lc, .string tx] 24)).alloc (.cells #[.int .i64 g, .int .i64 f, .bool t, .int .i64 a, .string ho, .string ap, .string pr, .string id, .slice la k lc, .string tx] 24)) := (((((Below.refl _ _).alloc (Nat.le_refl _) _).alloc (by simp) _).alloc (by simp <;> omega) _).alloc (by simp <;> omega) _).alloc (by simp <;> omega) _
      have bA : Blk (((((w3.alloc (.cells #[.int .i64 g, .int .i64 f, .bool t, .int .i64 a, .string ⟨#[]⟩, .string ap, .string ⟨#[]⟩, .string id, .slice la da.length lc, .string tx] 24)).alloc (.cells #[.int .i64 g, .int .i64 f, .bool t, .int .i64 a, .string ho, .string ap, .string pr, .string id, .slice none 0 0, .string tx] 24)).alloc (.cells #[.int .i64 g, .int .i64 f, .bool t, .int .i64 a, .string ho, .string ap, .string pr, .string id, .slice la da.length lc, .string ⟨#[]⟩] 24)).alloc (.cells #[.int .i64 g, .int .i64 f, .bool false, .int .i64 0, .string ho, .string ap, .string pr, .string id, .slice la da.length lc, .string tx] 24)).alloc (.cells #[.int .i64 g, .int .i64 f, .bool t, .int .i64 a, .string ho, .string ap, .string pr, .string id, .slice la k lc, .string tx] 24)) w3.heap.size #[.int .i64 g, .int .i64 f, .bool t, .int .i64 a, .string ⟨#[]⟩, .string ap, .string ⟨#[]⟩, .string id, .slice la da.length lc, .string tx] := ((((Blk.new w3 _ 24).alloc _).alloc _).alloc _).alloc _
      have bB : Blk (((((w3.alloc (.cells #[.int .i64 g, .int .i64 f, .bool t, .int .i64 a, .string ⟨#[]⟩, .string ap, .string ⟨#[]⟩, .string id, .slice la da.length lc, .string tx] 24)).alloc (.cells #[.int .i64 g, .int .i64 f, .bool t, .int .i64 a, .string ho, .string ap, .string pr, .string id, .slice none 0 0, .string tx] 24)).alloc (.cells #[.int .i64 g, .int .i64 f, .bool t, .int .i64 a, .string ho, .string ap, .string pr, .string id, .slice la da.length lc, .string ⟨#[]⟩] 24)).alloc (.cells #[.int .i64 g, .int .i64 f, .bool false, .int .i64 0, .string ho, .string ap, .string pr, .string id, .slice la da.length lc, .string tx] 24)).alloc (.cells #[.int .i64 g, .int .i64 f, .bool t, .int .i64 a, .string ho, .string ap, .string pr, .string id, .slice la k lc, .string tx] 24)) (w3.heap.size + 1) #[.int .i64 g, .int .i64 f, .bool t, .int .i64 a, .string ho, .string ap, .string pr, .string id, .slice none 0 0, .string tx] := by have := ((((Blk.new (w3.alloc (.cells #[.int .i64 g, .int .i64 f, .bool t, .int .i64 a, .string ⟨#[]⟩, .string ap, .string ⟨#[]⟩, .string id, .slice la da.length lc, .string tx] 24)) #[.int .i64 g, .int .i64 f, .bool t, .int .i64 a, .string ho, .string ap, .string pr, .string id, .slice none 0 0, .string tx] 24).alloc (.cells #[.int .i64 g, .int .i64 f, .bool t, .int .i64 a, .string ho, .string ap, .string pr, .string id, .slice la da.length lc, .string ⟨#[]⟩] 24)).alloc (.cells #[.int .i64 g, .int .i64 f, .bool false, .int .i64 0, .string ho, .string ap, .string pr, .string id, .slice la da.length lc, .string tx] 24)).alloc (.cells #[.int .i64 g, .int .i64 f, .bool t, .int .i64 a, .string ho, .string ap, .string pr, .string id, .slice la k lc, .string tx] 24)); simpa using this
      have bC : Blk (((((w3.alloc (.cells #[.int .i64 g, .int .i64 f, .bool t, .int .i64 a, .string ⟨#[]⟩, .string ap, .string ⟨#[]⟩, .string id, .slice la da.length lc, .string tx] 24)).alloc (.cells #[.int .i64 g, .int .i64 f, .bool t, .int .i64 a, .string ho, .string ap, .string pr, .string id, .slice none 0 0, .string tx] 24)).alloc (.cells #[.int .i64 g, .int .i64 f, .bool t, .int .i64 a, .string ho, .string ap, .string pr, .string id, .slice la da.length lc, .string ⟨#[]⟩] 24)).alloc (.cells #[.int .i64 g, .int .i64 f, .bool false, .int .i64 0, .string ho, .string ap, .string pr, .string id, .slice la da.length lc, .string tx] 24)).alloc (.cells #[.int .i64 g, .int .i64 f, .bool t, .int .i64 a, .string ho, .string ap, .string pr, .string id, .slice la k lc, .string tx] 24)) (w3.heap.size + 1 + 1) #[.int .i64 g, .int .i64 f, .bool t, .int .i64 a, .string ho, .string ap, .string pr, .string id, .slice la da.length lc, .string ⟨#[]⟩] := by have := ((Blk.new ((w3.alloc (.cells #[.int .i64 g, .int .i64 f, .bool t, .int .i64 a, .string ⟨#[]⟩, .string ap, .string ⟨#[]⟩, .string id, .slice la da.length lc, .string tx] 24)).alloc (.cells #[.int .i64 g, .int .i64 f, .bool t, .int .i64 a, .string ho, .string ap, .string pr, .string id, .slice none 0 0, .string tx] 24)) #[.int .i64 g, .int .i64 f, .bool t, .int .i64 a, .string ho, .string ap, .string pr, .string id, .slice la da.length lc, .string ⟨#[]⟩] 24).alloc (.cells #[.int .i64 g, .int .i64 f, .bool false, .int .i64 0, .string ho, .string ap, .string pr, .string id, .slice la da.length lc, .string tx] 24)).alloc (.cells #[.int .i64 g, .int .i64 f, .bool t, .int .i64 a, .string ho, .string ap, .string pr, .string id, .slice la k lc, .string tx] 24); simpa using this
      have bD : Blk (((((w3.alloc (.cells #[.int .i64 g, .int .i64 f, .bool t, .int .i64 a, .string ⟨#[]⟩, .string ap, .string ⟨#[]⟩, .string id, .slice la da.length lc, .string tx] 24)).alloc (.cells #[.int .i64 g, .int .i64 f, .bool t, .int .i64 a, .string ho, .string ap, .string pr, .string id, .slice none 0 0, .string tx] 24)).alloc (.cells #[.int .i64 g, .int .i64 f, .bool t, .int .i64 a, .string ho, .string ap, .string pr, .string id, .slice la da.length lc, .string ⟨#[]⟩] 24)).alloc (.cells #[.int .i64 g, .int .i64 f, .bool false, .int .i64 0, .string ho, .string ap, .string pr, .string id, .slice la da.length lc, .string tx] 24)).alloc (.cells #[.int .i64 g, .int .i64 f, .bool t, .int .i64 a, .string ho, .string ap, .string pr, .string id, .slice la k lc, .string tx] 24)) (w3.heap.size + 1 + 1 + 1) #[.int .i64 g, .int .i64 f, .bool false, .int .i64 0, .string ho, .string ap, .string pr, .string id, .slice la da.length lc, .string tx] := by have := (Blk.new (((w3.alloc (.cells #[.int .i64 g, .int .i64 f, .bool t, .int .i64 a, .string ⟨#[]⟩, .string ap, .string ⟨#[]⟩, .string id, .slice la da.length lc, .string tx] 24)).alloc (.cells #[.int .i64 g, .int .i64 f, .bool t, .int .i64 a, .string ho, .string ap, .string pr, .string id, .slice none 0 0, .string tx] 24)).alloc (.cells #[.int .i64 g, .int .i64 f, .bool t, .int .i64 a, .string ho, .string ap, .string pr, .string id, .slice la da.length lc, .string ⟨#[]⟩] 24)) #[.int .i64 g, .int .i64 f, .bool false, .int .i64 0, .string ho, .string ap, .string pr, .string id, .slice la da.length lc, .string tx] 24).alloc (.cells #[.int .i64 g, .int .i64 f, .bool t, .int .i64 a, .string ho, .string ap, .string pr, .string id, .slice la k lc, .string tx] 24); simpa using this
      go_wp2_with fail
      refine (rok (rn HR.out k) (hS3.below bw) (Ev.In.below (w := w3) ⟨elms_take hI3.data k hk, ⟨by have := hI3.fits.1; simp only [List.length_take]; omega, fun x hx => hI3.fits.2 x (List.mem_of_mem_take hx)⟩, hI3.host, hI3.app, hI3.proc, hI3.id, hI3.text⟩ bw)).mono ?_
      rintro r y ⟨rfl, hby⟩
      have bw2 := bw.trans (hby.mono bw.size)
      clear bw
      have bw := bw2
      clear bw2
      have nA := bA.below hby
      have nB := bB.below hby
      have nC := bC.below hby
      have nD := bD.below hby
      clear bA bB bC bD hby
      have bA := nA
      have bB := nB
      have bC := nC
      have bD := nD
      clear nA nB nC nD
      have cA := bA.2
      have cB := bB.2
      have cC := bC.2
      have cD := bD.2
      go_wp2_with fail
      refine (rok (ra HR.out) (hS3.below bw) (Ev.In.below (w := w3) ⟨hI3.data, hI3.fits, esz, hI3.app, esz, hI3.id, hI3.text⟩ bw)).mono ?_
      rintro r x0 ⟨rfl, hbx⟩
      have bw0 := bw.trans (hbx.mono bw.size)
      clear bw
      have bw := bw0
      clear bw0
      have nA := bA.below hbx
      have nB := bB.below hbx
      have nC := bC.below hbx
      have nD := bD.below hbx
      clear cA cB cC cD bA bB bC bD hbx
      have bA := nA
      have bB := nB
      have bC := nC
      have bD := nD
      clear nA nB nC nD
      have cA := bA.2
      have cB := bB.2
      have cC := bC.2
      have cD := bD.2
      go_wp2_with fail
      refine (rok (rb HR.out) (hS3.below bw) (Ev.In.below (w := w3) ⟨ElmsAt.nil w3 none 0, ⟨Nat.zero_le _, fun x hx => by cases hx⟩, hI3.host, hI3.app, hI3.proc, hI3.id, hI3.text⟩ bw)).mono ?_
      rintro r x1 ⟨rfl, hbx⟩
      have bw1 := bw.trans (hbx.mono bw.size)
      clear bw
      have bw := bw1
      clear bw1
      have nA := bA.below hbx
      have nB := bB.below hbx
      have nC := bC.below hbx
      have nD := bD.below hbx
      clear cA cB cC cD bA bB bC bD hbx
      have bA := nA
      have bB := nB
      have bC := nC
      have bD := nD
      clear nA nB nC nD
      have cA := bA.2
      have cB := bB.2
      have cC := bC.2
      have cD := bD.2
      go_wp2_with fail
      refine (rok (rc HR.out) (hS3.below bw) (Ev.In.below (w := w3) ⟨hI3.data, hI3.fits, hI3.host, hI3.app, hI3.proc, hI3.id, esz⟩ bw)).mono ?_
      rintro r x2 ⟨rfl, hbx⟩
      have bw2 := bw.trans (hbx.mono bw.size)
      clear bw
      have bw := bw2
      clear bw2
      have nA := bA.below hbx
      have nB := bB.below hbx
      have nC := bC.below hbx
      have nD := bD.below hbx
      clear cA cB cC cD bA bB bC bD hbx
      have bA := nA
      have bB := nB
      have bC := nC
      have bD := nD
      clear nA nB nC nD
      have cA := bA.2
      have cB := bB.2
      have cC := bC.2
      have cD := bD.2
      go_wp2_with fail
      refine (rok (rd HR.out) (hS3.below bw) (Ev.In.below (w := w3) ⟨hI3.data, hI3.fits, hI3.host, hI3.app, hI3.proc, hI3.id, hI3.text⟩ bw)).mono ?_
      rintro r x3 ⟨rfl, hbx⟩
      have bw3 := bw.trans (hbx.mono bw.size)
      clear bw
      have bw := bw3
      clear bw3
      have nA := bA.below hbx
      have nB := bB.below hbx
      have nC := bC.below hbx
      have nD := bD.below hbx
      clear cA cB cC cD bA bB bC bD hbx
      have bA := nA
      have bB := nB
      have bC := nC
      have bD := nD
      clear nA nB nC nD
      have BB := B3.trans (bw.mono B3.size)
      go_wp2
      go_ret
      exact ⟨rfl, BB⟩
    · have bw : Below w3.heap.size w3 ((((w3.alloc (.cells #[.int .i64 g, .int .i64 f, .bool t, .int .i64 a, .string ⟨#[]⟩, .string ap, .string ⟨#[]⟩, .string id, .slice la da.length lc, .string tx] 24)).alloc (.cells #[.int .i64 g, .int .i64 f, .bool t, .int .i64 a, .string ho, .string ap, .string pr, .string id, .slice none 0 0, .string tx] 24)).alloc (.cells #[.int .i64 g, .int .i64 f, .bool t, .int .i64 a, .string ho, .string ap, .string pr, .string id, .slice la da.length lc, .string ⟨#[]⟩] 24)).alloc (.cells #[.int .i64 g, .int .i64 f, .bool false, .int .i64 0, .string ho, .string ap, .string pr, .string id, .slice la da.length lc, .string tx] 24)) := ((((Below.refl _ _).alloc (Nat.le_refl _) _).alloc (by simp) _).alloc (by simp <;> omega) _).alloc (by simp <;> omega) _
      have bA : Blk ((((w3.alloc (.cells #[.int .i64 g, .int .i64 f, .bool t, .int .i64 a, .string ⟨#[]⟩, .string ap, .string ⟨#[]⟩, .string id, .slice la da.length lc, .string tx] 24)).alloc (.cells #[.int .i64 g, .int .i64 f, .bool t, .int .i64 a, .string ho, .string ap, .string pr, .string id, .slice none 0 0, .string tx] 24)).alloc (.cells #[.int .i64 g, .int .i64 f, .bool t, .int .i64 a, .string ho, .string ap, .string pr, .string id, .slice la da.length lc, .string ⟨#[]⟩] 24)).alloc (.cells #[.int .i64 g, .int .i64 f, .bool false, .int .i64 0, .string ho, .string ap, .string pr, .string id, .slice la da.length lc, .string tx] 24)) w3.heap.size #[.int .i64 g, .int .i64 f, .bool t, .int .i64 a, .string ⟨#[]⟩, .string ap, .string ⟨#[]⟩, .string id, .slice la da.length lc, .string tx] := ((((Blk.new w3 _ 24).alloc _).alloc _).alloc _)
      have bB : Blk ((((w3.alloc (.cells #[.int .i64 g, .int .i64 f, .bool t, .int .i64 a, .string ⟨#[]⟩, .string ap, .string ⟨#[]⟩, .string id, .slice la da.length lc, .string tx] 24)).alloc (.cells #[.int .i64 g, .int .i64 f, .bool t, .int .i64 a, .string ho, .string ap, .string pr, .string id, .slice none 0 0, .string tx] 24)).alloc (.cells #[.int .i64 g, .int .i64 f, .bool t, .int .i64 a, .string ho, .string ap, .string pr, .string id, .slice la da.length lc, .string ⟨#[]⟩] 24)).alloc (.cells #[.int .i64 g, .int .i64 f, .bool false, .int .i64 0, .string ho, .string ap, .string pr, .string id, .slice la da.length lc, .string tx] 24)) (w3.heap.size + 1) #[.int .i64 g, .int .i64 f, .bool t, .int .i64 a, .string ho, .string ap, .string pr, .string id, .slice none 0 0, .string tx] := by have := ((((Blk.new (w3.alloc (.cells #[.int .i64 g, .int .i64 f, .bool t, .int .i64 a, .string ⟨#[]⟩, .string ap, .string ⟨#[]⟩, .string id, .slice la da.length lc, .string tx] 24)) #[.int .i64 g, .int .i64 f, .bool t, .int .i64 a, .string ho, .string ap, .string pr, .string id, .slice none 0 0, .string tx] 24).alloc (.cells #[.int .i64 g, .int .i64 f, .bool t, .int .i64 a, .string ho, .string ap, .string pr, .string id, .slice la da.length lc, .string ⟨#[]⟩] 24)).alloc (.cells #[.int .i64 g, .int .i64 f, .bool false, .int .i64 0, .string ho, .string ap, .string pr, .string id, .slice la da.length lc, .string tx] 24))); simpa using this
      have bC : Blk ((((w3.alloc (.cells #[.int .i64 g, .int .i64 f, .bool t, .int .i64 a, .string ⟨#[]⟩, .string ap, .string ⟨#[]⟩, .string id, .slice la da.length lc, .string tx] 24)).alloc (.cells #[.int .i64 g, .int .i64 f, .bool t, .int .i64 a, .string ho, .string ap, .string pr, .string id, .slice none 0 0, .string tx] 24)).alloc (.cells #[.int .i64 g, .int .i64 f, .bool t, .int .i64 a, .string ho, .string ap, .string pr, .string id, .slice la da.length lc, .string ⟨#[]⟩] 24)).alloc (.cells #[.int .i64 g, .int .i64 f, .bool false, .int .i64 0, .string ho, .string ap, .string pr, .string id, .slice la da.length lc, .string tx] 24)) (w3.heap.size + 1 + 1) #[.int .i64 g, .int .i64 f, .bool t, .int .i64 a, .string ho, .string ap, .string pr, .string id, .slice la da.length lc, .string ⟨#[]⟩] := by have := ((Blk.new ((w3.alloc (.cells #[.int .i64 g, .int .i64 f, .bool t, .int .i64 a, .string ⟨#[]⟩, .string ap, .string ⟨#[]⟩, .string id, .slice la da.length lc, .string tx] 24)).alloc (.cells #[.int .i64 g, .int .i64 f, .bool t, .int .i64 a, .string ho, .string ap, .string pr, .string id, .slice none 0 0, .string tx] 24)) #[.int .i64 g, .int .i64 f, .bool t, .int .i64 a, .string ho, .string ap, .string pr, .string id, .slice la da.length lc, .string ⟨#[]⟩] 24).alloc (.cells #[.int .i64 g, .int .i64 f, .bool false, .int .i64 0, .string ho, .string ap, .string pr, .string id, .slice la da.length lc, .string tx] 24)); simpa using this
      have bD : Blk ((((w3.alloc (.cells #[.int .i64 g, .int .i64 f, .bool t, .int .i64 a, .string ⟨#[]⟩, .string ap, .string ⟨#[]⟩, .string id, .slice la da.length lc, .string tx] 24)).alloc (.cells #[.int .i64 g, .int .i64 f, .bool t, .int .i64 a, .string ho, .string ap, .string pr, .string id, .slice none 0 0, .string tx] 24)).alloc (.cells #[.int .i64 g, .int .i64 f, .bool t, .int .i64 a, .string ho, .string ap, .string pr, .string id, .slice la da.length lc, .string ⟨#[]⟩] 24)).alloc (.cells #[.int .i64 g, .int .i64 f, .bool false, .int .i64 0, .string ho, .string ap, .string pr, .string id, .slice la da.length lc, .string tx] 24)) (w3.heap.size + 1 + 1 + 1) #[.int .i64 g, .int .i64 f, .bool false, .int .i64 0, .string ho, .string ap, .string pr, .string id, .slice la da.length lc, .string tx] := by have := (Blk.new (((w3.alloc (.cells #[.int .i64 g, .int .i64 f, .bool t, .int .i64 a, .string ⟨#[]⟩, .string ap, .string ⟨#[]⟩, .string id, .slice la da.length lc, .string tx] 24)).alloc (.cells #[.int .i64 g, .int .i64 f, .bool t, .int .i64 a, .string ho, .string ap, .string pr, .string id, .slice none 0 0, .string tx] 24)).alloc (.cells #[.int .i64 g, .int .i64 f, .bool t, .int .i64 a, .string ho, .string ap, .string pr, .string id, .slice la da.length lc, .string ⟨#[]⟩] 24)) #[.int .i64 g, .int .i64 f, .bool false, .int .i64 0, .string ho, .string ap, .string pr, .string id, .slice la da.length lc, .string tx] 24); simpa using this
      rcases (show i < 0 ∨ (0 ≤ i ∧ (da.length : Int) ≤ i) by omega) with h1 | ⟨h1, h2⟩
      · clear hi
        go_wp2_with fail
        refine (rok (ra HR.out) (hS3.below bw) (Ev.In.below (w := w3) ⟨hI3.data, hI3.fits, esz, hI3.app, esz, hI3.id, hI3.text⟩ bw)).mono ?_
        rintro r x0 ⟨rfl, hbx⟩
        have bw0 := bw.trans (hbx.mono bw.size)
        clear bw
        have bw := bw0
        clear bw0
        have nA := bA.below hbx
        have nB := bB.below hbx
        have nC := bC.below hbx
        have nD := bD.below hbx
        clear bA bB bC bD hbx
        have bA := nA
        have bB := nB
        have bC := nC
        have bD := nD
        clear nA nB nC nD
        have cA := bA.2
        have cB := bB.2
        have cC := bC.2
        have cD := bD.2
        go_wp2_with fail
        refine (rok (rb HR.out) (hS3.below bw) (Ev.In.below (w := w3) ⟨ElmsAt.nil w3 none 0, ⟨Nat.zero_le _, fun x hx => by cases hx⟩, hI3.host, hI3.app, hI3.proc, hI3.id, hI3.text⟩ bw)).mono ?_
        rintro r x1 ⟨rfl, hbx⟩
        have bw1 := bw.trans (hbx.mono bw.size)
        clear bw
        have bw := bw1
        clear bw1
        have nA := bA.below hbx
        have nB := bB.below hbx
        have nC := bC.below hbx
        have nD := bD.below hbx
        clear cA cB cC cD bA bB bC bD hbx
        have bA := nA
        have bB := nB
        have bC := nC
        have bD := nD
        clear nA nB nC nD
        have cA := bA.2
        have cB := bB.2
        have cC := bC.2
        have cD := bD.2
        go_wp2_with fail
        refine (rok (rc HR.out) (hS3.below bw) (Ev.In.below (w := w3) ⟨hI3.data, hI3.fits, hI3.host, hI3.app, hI3.proc, hI3.id, esz⟩ bw)).mono ?_
        rintro r x2 ⟨rfl, hbx⟩
        have bw2 := bw.trans (hbx.mono bw.size)
        clear bw
        have bw := bw2
        clear bw2
        have nA := bA.below hbx
        have nB := bB.below hbx
        have nC := bC.below hbx
        have nD := bD.below hbx
        clear cA cB cC cD bA bB bC bD hbx
        have bA := nA
        have bB := nB
        have bC := nC
        have bD := nD
        clear nA nB nC nD
        have cA := bA.2
        have cB := bB.2
        have cC := bC.2
        have cD := bD.2
        go_wp2_with fail
        refine (rok (rd HR.out) (hS3.below bw) (Ev.In.below (w := w3) ⟨hI3.data, hI3.fits, hI3.host, hI3.app, hI3.proc, hI3.id, hI3.text⟩ bw)).mono ?_
        rintro r x3 ⟨rfl, hbx⟩
        have bw3 := bw.trans (hbx.mono bw.size)
        clear bw
        have bw := bw3
        clear bw3
        have nA := bA.below hbx
        have nB := bB.below hbx
        have nC := bC.below hbx
        have nD := bD.below hbx
        clear cA cB cC cD bA bB bC bD hbx
        have bA := nA
        have bB := nB
        have bC := nC
        have bD := nD
        clear nA nB nC nD
        have BB := B3.trans (bw.mono B3.size)
        go_wp2
        go_ret
        exact ⟨rfl, BB⟩
      · clear hi
        go_wp2_with fail
        refine (rok (ra HR.out) (hS3.below bw) (Ev.In.below (w := w3) ⟨hI3.data, hI3.fits, esz, hI3.app, esz, hI3.id, hI3.text⟩ bw)).mono ?_
        rintro r x0 ⟨rfl, hbx⟩
        have bw0 := bw.trans (hbx.mono bw.size)
        clear bw
        have bw := bw0
        clear bw0
        have nA := bA.below hbx
        have nB := bB.below hbx
        have nC := bC.below hbx
        have nD := bD.below hbx
        clear bA bB bC bD hbx
        have bA := nA
        have bB := nB
        have bC := nC
        have bD := nD
        clear nA nB nC nD
        have cA := bA.2
        have cB := bB.2
        have cC := bC.2
        have cD := bD.2
        go_wp2_with fail
        refine (rok (rb HR.out) (hS3.below bw) (Ev.In.below (w := w3) ⟨ElmsAt.nil w3 none 0, ⟨Nat.zero_le _, fun x hx => by cases hx⟩, hI3.host, hI3.app, hI3.proc, hI3.id, hI3.text⟩ bw)).mono ?_
        rintro r x1 ⟨rfl, hbx⟩
        have bw1 := bw.trans (hbx.mono bw.size)
        clear bw
        have bw := bw1
        clear bw1
        have nA := bA.below hbx
        have nB := bB.below hbx
        have nC := bC.below hbx
        have nD := bD.below hbx
        clear cA cB cC cD bA bB bC bD hbx
        have bA := nA
        have bB := nB
        have bC := nC
        have bD := nD
        clear nA nB nC nD
        have cA := bA.2
        have cB := bB.2
        have cC := bC.2
        have cD := bD.2
        go_wp2_with fail
        refine (rok (rc HR.out) (hS3.below bw) (Ev.In.below (w := w3) ⟨hI3.data, hI3.fits, hI3.host, hI3.app, hI3.proc, hI3.id, esz⟩ bw)).mono ?_
        rintro r x2 ⟨rfl, hbx⟩
        have bw2 := bw.trans (hbx.mono bw.size)
        clear bw
        have bw := bw2
        clear bw2
        have nA := bA.below hbx
        have nB := bB.below hbx
        have nC := bC.below hbx
        have nD := bD.below hbx
        clear cA cB cC cD bA bB bC bD hbx
        have bA := nA
        have bB := nB
        have bC := nC
        have bD := nD
        clear nA nB nC nD
        have cA := bA.2
        have cB := bB.2
        have cC := bC.2
        have cD := bD.2
        go_wp2_with fail
        refine (rok (rd HR.out) (hS3.below bw) (Ev.In.below (w := w3) ⟨hI3.data, hI3.fits, hI3.host, hI3.app, hI3.proc, hI3.id, hI3.text⟩ bw)).mono ?_
        rintro r x3 ⟨rfl, hbx⟩
        have bw3 := bw.trans (hbx.mono bw.size)
        clear bw
        have bw := bw3
        clear bw3
        have nA := bA.below hbx
        have nB := bB.below hbx
        have nC := bC.below hbx
        have nD := bD.below hbx
        clear cA cB cC cD bA bB bC bD hbx
        have bA := nA
        have bB := nB
        have bC := nC
        have bD := nD
        clear nA nB nC nD
        have BB := B3.trans (bw.mono B3.size)
        go_wp2
        go_ret
        exact ⟨rfl, BB⟩
  · have hne : (R == 0) = false := beq_eq_false_iff_ne.2 h0
    have hne2 : (R != 0) = true := by rw [bne, hne]; rfl
    clear h0
    go_wp2
    go_ret
    exact ⟨rfl, B3⟩
end Go.Proofs.YtnaijahhogndjaaGreatDoor.syslRight
