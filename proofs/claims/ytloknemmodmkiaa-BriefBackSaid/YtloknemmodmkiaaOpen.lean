/- Briefs, queries and events among the arguments: opened out of the form's own reading. -/
import Derived.Test.YtloknemmodmkiaaRows
import Derived.Test.YtloknemmodmkiaaBr
import Derived.WalkKit
import Derived.ProofKit
import Derived.OpenShut
import Derived.ShutString
import Derived.ChangeOld
import Derived.Below
import Derived.Lib.SmallJoins
namespace Go.Proofs.Ytloknemmodmkiaa
open Go.ChangeShapes Go.WideShapes Go.ChangeAt Go.RowKit Go.Joins

theorem own : ownKnob Try.prog.godebug = none := by kernel_rfl
theorem laidOut : laidOutB Try.prog = true := by kernel_rfl
theorem cells2 : Try.prog.cellsOf 2 = 1 := by kernel_rfl
theorem cells3 : Try.prog.cellsOf 3 = 1 := by kernel_rfl
theorem cells4 : Try.prog.cellsOf 4 = 1 := by kernel_rfl
theorem cells9 : Try.prog.cellsOf 9 = 1 := by kernel_rfl
theorem cells22 : Try.prog.cellsOf 22 = 1 := by kernel_rfl
theorem cells25 : Try.prog.cellsOf 25 = 1 := by kernel_rfl
theorem cells28 : Try.prog.cellsOf 28 = 1 := by kernel_rfl
theorem cells24 : Try.prog.cellsOf 24 = 4 := by kernel_rfl
theorem cells27 : Try.prog.cellsOf 27 = 10 := by kernel_rfl
theorem cells30 : Try.prog.cellsOf 30 = 6 := by kernel_rfl
theorem cells51 : Try.prog.cellsOf 51 = 24 := by kernel_rfl

theorem u32_in {a : Int} (h : (Lit.int .u32 a).wf = true) : 0 ≤ a ∧ a < 4294967296 := by
  simp only [Lit.wf, Bool.and_eq_true, decide_eq_true_eq] at h
  have h2 : a ≤ 4294967295 := h.2
  exact ⟨h.1, by omega⟩
theorem u64_in {a : Int} (h : (Lit.int .u64 a).wf = true) : 0 ≤ a ∧ a < 18446744073709551616 := by
  simp only [Lit.wf, Bool.and_eq_true, decide_eq_true_eq] at h
  have h2 : a ≤ 18446744073709551615 := h.2
  exact ⟨h.1, by omega⟩

section
set_option maxRecDepth 100000
variable {H : Type} {enc : TypeId × Value → H} {W : World}
/-- A brief's cells. -/
theorem brief_cells {fuel : Nat} {cs : List Value} {y : DataW H × List MemPlace} (h : DataW.trod enc Try.prog W 0 (fun _ => true) true fuel 30 cs = some y) :
    ∃ b : Br, cs = [.int .i64 b.f, .int .i64 b.l, .int .u32 b.g, .int .u32 b.r, .int .u64 b.m, .bool b.k] ∧ Fits b := by
  obtain ⟨xs, n, _, hx, hl, hlen, hg⟩ := DataW.trod_struct Try.underlying30 h
  rw [cells30] at hl
  have g0 := hg 0 _ rfl
  have g1 := hg 1 _ rfl
  have g2 := hg 2 _ rfl
  have g3 := hg 3 _ rfl
  have g4 := hg 4 _ rfl
  have g5 := hg 5 _ rfl
  match cs, hl, xs, hlen with
  | [c0, c1, c2, c3, c4, c5], _, [y0, y1, y2, y3, y4, y5], _ =>
    simp [cells2, cells22, cells28, cells4] at g0 g1 g2 g3 g4 g5
    obtain ⟨a0, e0, _, _⟩ := DataW.trod_int Try.underlying2 g0
    obtain ⟨a1, e1, _, _⟩ := DataW.trod_int Try.underlying2 g1
    obtain ⟨a2, e2, _, w2⟩ := DataW.trod_int Try.underlying22 g2
    obtain ⟨a3, e3, _, w3⟩ := DataW.trod_int Try.underlying22 g3
    obtain ⟨a4, e4, _, w4⟩ := DataW.trod_int Try.underlying28 g4
    obtain ⟨a5, e5, _⟩ := DataW.trod_bool Try.underlying4 g5
    simp at e0 e1 e2 e3 e4 e5
    subst e0 e1 e2 e3 e4 e5
    exact ⟨⟨a0, a1, a2, a3, a4, a5⟩, rfl, (u32_in w2).1, (u32_in w2).2, (u32_in w3).1, (u32_in w3).2, (u64_in w4).1, (u64_in w4).2⟩
/-- A query's. -/
theorem query_cells {fuel : Nat} {cs : List Value} {y : DataW H × List MemPlace} (h : DataW.trod enc Try.prog W 0 (fun _ => true) true fuel 24 cs = some y) :
    ∃ b : Qu, cs = [.int .i64 b.f, .int .i64 b.l, .int .u32 b.g, .int .u32 b.r] ∧ QFits b := by
  obtain ⟨xs, n, _, hx, hl, hlen, hg⟩ := DataW.trod_struct Try.underlying24 h
  rw [cells24] at hl
  have g0 := hg 0 _ rfl
  have g1 := hg 1 _ rfl
  have g2 := hg 2 _ rfl
  have g3 := hg 3 _ rfl
  match cs, hl, xs, hlen with
  | [c0, c1, c2, c3], _, [y0, y1, y2, y3], _ =>
    simp [cells2, cells22] at g0 g1 g2 g3
    obtain ⟨a0, e0, _, _⟩ := DataW.trod_int Try.underlying2 g0
    obtain ⟨a1, e1, _, _⟩ := DataW.trod_int Try.underlying2 g1
    obtain ⟨a2, e2, _, w2⟩ := DataW.trod_int Try.underlying22 g2
    obtain ⟨a3, e3, _, w3⟩ := DataW.trod_int Try.underlying22 g3
    simp at e0 e1 e2 e3
    subst e0 e1 e2 e3
    exact ⟨⟨a0, a1, a2, a3⟩, rfl, (u32_in w2).1, (u32_in w2).2, (u32_in w3).1, (u32_in w3).2⟩
/-- What a function reads of an event, and what stands beside it. -/
structure Ev where
  g : Int
  f : Int
  t : Bool
  a : Int
  ho : ByteArray
  ap : ByteArray
  pr : ByteArray
  id : ByteArray
  la : Option Addr
  ln : Nat
  lc : Nat
  tx : ByteArray
/-- An event's. -/
theorem event_cells {fuel : Nat} {cs : List Value} {y : DataW H × List MemPlace} (h : DataW.trod enc Try.prog W 0 (fun _ => true) true fuel 27 cs = some y) :
    ∃ e : Ev, cs = [.int .i64 e.g, .int .i64 e.f, .bool e.t, .int .i64 e.a, .string e.ho, .string e.ap, .string e.pr, .string e.id, .slice e.la e.ln e.lc, .string e.tx] := by
  obtain ⟨xs, n, _, hx, hl, hlen, hg⟩ := DataW.trod_struct Try.underlying27 h
  rw [cells27] at hl
  have g0 := hg 0 _ rfl
  have g1 := hg 1 _ rfl
  have g2 := hg 2 _ rfl
  have g3 := hg 3 _ rfl
  have g4 := hg 4 _ rfl
  have g5 := hg 5 _ rfl
  have g6 := hg 6 _ rfl
  have g7 := hg 7 _ rfl
  have g8 := hg 8 _ rfl
  have g9 := hg 9 _ rfl
  match cs, hl, xs, hlen with
  | [c0, c1, c2, c3, c4, c5, c6, c7, c8, c9], _, [y0, y1, y2, y3, y4, y5, y6, y7, y8, y9], _ =>
    simp [cells2, cells3, cells4, cells9, cells25] at g0 g1 g2 g3 g4 g5 g6 g7 g8 g9
    obtain ⟨a0, e0, _, _⟩ := DataW.trod_int Try.underlying3 g0
    obtain ⟨a1, e1, _, _⟩ := DataW.trod_int Try.underlying3 g1
    obtain ⟨a2, e2, _⟩ := DataW.trod_bool Try.underlying4 g2
    obtain ⟨a3, e3, _, _⟩ := DataW.trod_int Try.underlying2 g3
    obtain ⟨a4, e4, _, _⟩ := DataW.trod_string Try.underlying9 g4
    obtain ⟨a5, e5, _, _⟩ := DataW.trod_string Try.underlying9 g5
    obtain ⟨a6, e6, _, _⟩ := DataW.trod_string Try.underlying9 g6
    obtain ⟨a7, e7, _, _⟩ := DataW.trod_string Try.underlying9 g7
    obtain ⟨a9, e9, _, _⟩ := DataW.trod_string Try.underlying9 g9
    simp at e0 e1 e2 e3 e4 e5 e6 e7 e9
    subst e0 e1 e2 e3 e4 e5 e6 e7 e9
    rcases DataW.trod_slice Try.underlying25 g8 with ⟨hv, _⟩ | ⟨ad, len, cap, _, _, _, _, hv, _⟩
    · simp only [List.cons.injEq, and_true] at hv
      subst hv
      exact ⟨⟨a0, a1, a2, a3, a4, a5, a6, a7, none, 0, 0, a9⟩, rfl⟩
    · simp only [List.cons.injEq, and_true] at hv
      subst hv
      exact ⟨⟨a0, a1, a2, a3, a4, a5, a6, a7, some ad, len, cap, a9⟩, rfl⟩

theorem open_brief {r : Reach} {b0 : Nat} {v : Value} {d : DataW H} {p : List MemPlace} (hv : Value.okWide Try.prog W r b0 30 v) (h : DataW.Trod enc Try.prog W 0 (fun _ => true) true 30 v d p) :
    ∃ b : Br, v = .agg #[.int .i64 b.f, .int .i64 b.l, .int .u32 b.g, .int .u32 b.r, .int .u64 b.m, .bool b.k] ∧ Fits b := by
  obtain ⟨cs, rfl, hsz⟩ := okWide_struct Try.underlying30 hv
  obtain ⟨fuel, hf⟩ := h
  obtain ⟨b, hb, hfit⟩ := brief_cells hf
  refine ⟨b, ?_, hfit⟩
  simp only [Value.cells] at hb
  rw [← hb]
theorem open_query {r : Reach} {b0 : Nat} {v : Value} {d : DataW H} {p : List MemPlace} (hv : Value.okWide Try.prog W r b0 24 v) (h : DataW.Trod enc Try.prog W 0 (fun _ => true) true 24 v d p) :
    ∃ b : Qu, v = .agg #[.int .i64 b.f, .int .i64 b.l, .int .u32 b.g, .int .u32 b.r] ∧ QFits b := by
  obtain ⟨cs, rfl, hsz⟩ := okWide_struct Try.underlying24 hv
  obtain ⟨fuel, hf⟩ := h
  obtain ⟨b, hb, hfit⟩ := query_cells hf
  refine ⟨b, ?_, hfit⟩
  simp only [Value.cells] at hb
  rw [← hb]
theorem open_event {r : Reach} {b0 : Nat} {v : Value} {d : DataW H} {p : List MemPlace} (hv : Value.okWide Try.prog W r b0 27 v) (h : DataW.Trod enc Try.prog W 0 (fun _ => true) true 27 v d p) :
    ∃ e : Ev, v = .agg #[.int .i64 e.g, .int .i64 e.f, .bool e.t, .int .i64 e.a, .string e.ho, .string e.ap, .string e.pr, .string e.id, .slice e.la e.ln e.lc, .string e.tx] := by
  obtain ⟨cs, rfl, hsz⟩ := okWide_struct Try.underlying27 hv
  obtain ⟨fuel, hf⟩ := h
  obtain ⟨b, hb⟩ := event_cells hf
  refine ⟨b, ?_⟩
  simp only [Value.cells] at hb
  rw [← hb]
end
end Go.Proofs.Ytloknemmodmkiaa
