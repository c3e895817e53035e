/- A brief's text, as the program lays it: the numbers that it tells, one behind the other, each in its bytes. Condition: the brief's numbers fit their kinds. -/
import Derived.Test.YtloknemmodmkiaaNum
import Derived.Test.YtloknemmodmkiaaRange
import Derived.Test.YtloknemmodmkiaaRowsOf
import Derived.RegionIn
import Derived.BigRegionIn
namespace Go.Proofs.Ytloknemmodmkiaa
open Go.ChangeShapes Go.WideShapes Go.ChangeAt Go.RowKit
attribute [local go_sem] Oper.semAt_some

/-- What a round leaves alone: the brief, and its Keep as a number. -/
def HeldBK (Bb Bk : Nat) (W W' : World) : Prop := W'.heap[Bb]? = W.heap[Bb]? ∧ W'.heap[Bk]? = W.heap[Bk]?

/-- What numbers goes through. -/
def numbersOf (F L G R M K : Nat) (hF : F < 18446744073709551616) (hL : L < 18446744073709551616) (hG : G < 18446744073709551616) (hR : R < 18446744073709551616) (hM : M < 18446744073709551616) (hK : K < 18446744073709551616) : List Item :=
  [⟨F, 8, hF, by decide⟩, ⟨L, 8, hL, by decide⟩, ⟨G, 4, hG, by decide⟩, ⟨R, 4, hR, by decide⟩, ⟨M, 8, hM, by decide⟩, ⟨K, 1, hK, by decide⟩]

set_option maxRecDepth 100000 in
set_option maxHeartbeats 4000000 in
theorem nums_in (n : Nat) (hn : 1 ≤ n) (Bt Bb Bk : Nat) (f l : Int) (F L G R M K : Nat) (k : Bool) (hF : F < 18446744073709551616) (hL : L < 18446744073709551616) (hG : G < 18446744073709551616) (hR : R < 18446744073709551616) (hM : M < 18446744073709551616) (hK : K < 18446744073709551616)
    (eF : f % 18446744073709551616 = (F : Int)) (eL : l % 18446744073709551616 = (L : Int)) (w : World) (hb : Box6 w Bb ⟨f, l, G, R, M, k⟩) (hk : Boxed w Bk 28 (.int .u64 K)) :
    SeqState Fence.wide n Try.prog 27 #[.pointer (some ⟨Bb, 0, none⟩), .pointer (some ⟨Bk, 0, none⟩)] (fun x : Item => #[Value.int .u64 x.n, Value.int .i64 x.s]) Bt (HeldBK Bb Bk) (fun xs => xs = numbersOf F L G R M K hF hL hG hR hM hK) 6 w := by
  intro ll J W hW hJ hY h0
  have hb' : Box6 W Bb ⟨f, l, G, R, M, k⟩ := (hW.block Bb hb.lt).trans hb
  have hk' : Boxed W Bk 28 (.int .u64 K) := (hW.block Bk hk.lt).trans hk
  have wF : IntKind.u64.wrap f = (F : Int) := by rw [wrap_u64, eF]
  have wL : IntKind.u64.wrap l = (L : Int) := by rw [wrap_u64, eL]
  have HY := Lib.hid hY
  clear hY
  have J0 := h0
  have hb0 := hb'
  have hk0 := hk'
  clear h0 hb' hk' hb hk hW
  obtain ⟨fn0, tmps0, assign0, body0, hy0, hr0⟩ := HY.out _ ⟨F, 8, hF, by decide⟩ W J0 (by simp)
  have hz0 : Sem.run Try.prog (Instr.yield ll #[.int .u64 (F : Int), .int .i64 8]) W = .ok (Next.round ll fn0 tmps0 assign0 body0) W := hy0
  obtain ⟨c0, c1, c2, c3, c4, c5⟩ := hb0.cells
  have ck := hk0.cell
  have JJ := Lib.hid J0
  clear hy0 J0
  refine callsIn_of_wp Try.func27 rfl trivial ?_ rfl
  simp only [Try.ntmps27, List.size_toArray, List.length_cons, List.length_nil, Nat.reduceAdd, Nat.reduceSub, Array.replicate_succ, Array.replicate_zero, List.push_toArray, List.append_toArray, List.nil_append, List.cons_append]
  gi_wp2
  refine hr0.mono ?_
  rintro e W1 ⟨rfl, J1, q0⟩
  have hb1 : Box6 W1 Bb ⟨f, l, G, R, M, k⟩ := q0.1.trans hb0
  have hk1 : Boxed W1 Bk 28 (.int .u64 K) := q0.2.trans hk0
  clear hr0 hz0 q0 hb0 hk0 c0 c1 c2 c3 c4 c5 ck JJ
  obtain ⟨fn1, tmps1, assign1, body1, hy1, hr1⟩ := HY.out _ ⟨L, 8, hL, by decide⟩ W1 J1 (by simp)
  have hz1 : Sem.run Try.prog (Instr.yield ll #[.int .u64 (L : Int), .int .i64 8]) W1 = .ok (Next.round ll fn1 tmps1 assign1 body1) W1 := hy1
  obtain ⟨c0, c1, c2, c3, c4, c5⟩ := hb1.cells
  have ck := hk1.cell
  have JJ := Lib.hid J1
  clear hy1 J1
  gi_wp2
  refine hr1.mono ?_
  rintro e W2 ⟨rfl, J2, q1⟩
  have hb2 : Box6 W2 Bb ⟨f, l, G, R, M, k⟩ := q1.1.trans hb1
  have hk2 : Boxed W2 Bk 28 (.int .u64 K) := q1.2.trans hk1
  clear hr1 hz1 q1 hb1 hk1 c0 c1 c2 c3 c4 c5 ck JJ
  obtain ⟨fn2, tmps2, assign2, body2, hy2, hr2⟩ := HY.out _ ⟨G, 4, hG, by decide⟩ W2 J2 (by simp)
  have hz2 : Sem.run Try.prog (Instr.yield ll #[.int .u64 (G : Int), .int .i64 4]) W2 = .ok (Next.round ll fn2 tmps2 assign2 body2) W2 := hy2
  obtain ⟨c0, c1, c2, c3, c4, c5⟩ := hb2.cells
  have ck := hk2.cell
  have JJ := Lib.hid J2
  clear hy2 J2
  gi_wp2
  refine hr2.mono ?_
  rintro e W3 ⟨rfl, J3, q2⟩
  have hb3 : Box6 W3 Bb ⟨f, l, G, R, M, k⟩ := q2.1.trans hb2
  have hk3 : Boxed W3 Bk 28 (.int .u64 K) := q2.2.trans hk2
  clear hr2 hz2 q2 hb2 hk2 c0 c1 c2 c3 c4 c5 ck JJ
  obtain ⟨fn3, tmps3, assign3, body3, hy3, hr3⟩ := HY.out _ ⟨R, 4, hR, by decide⟩ W3 J3 (by simp)
  have hz3 : Sem.run Try.prog (Instr.yield ll #[.int .u64 (R : Int), .int .i64 4]) W3 = .ok (Next.round ll fn3 tmps3 assign3 body3) W3 := hy3
  obtain ⟨c0, c1, c2, c3, c4, c5⟩ := hb3.cells
  have ck := hk3.cell
  have JJ := Lib.hid J3
  clear hy3 J3
  gi_wp2
  refine hr3.mono ?_
  rintro e W4 ⟨rfl, J4, q3⟩
  have hb4 : Box6 W4 Bb ⟨f, l, G, R, M, k⟩ := q3.1.trans hb3
  have hk4 : Boxed W4 Bk 28 (.int .u64 K) := q3.2.trans hk3
  clear hr3 hz3 q3 hb3 hk3 c0 c1 c2 c3 c4 c5 ck JJ
  obtain ⟨fn4, tmps4, assign4, body4, hy4, hr4⟩ := HY.out _ ⟨M, 8, hM, by decide⟩ W4 J4 (by simp)
  have hz4 : Sem.run Try.prog (Instr.yield ll #[.int .u64 (M : Int), .int .i64 8]) W4 = .ok (Next.round ll fn4 tmps4 assign4 body4) W4 := hy4
  obtain ⟨c0, c1, c2, c3, c4, c5⟩ := hb4.cells
  have ck := hk4.cell
  have JJ := Lib.hid J4
  clear hy4 J4
  gi_wp2
  refine hr4.mono ?_
  rintro e W5 ⟨rfl, J5, q4⟩
  have hb5 : Box6 W5 Bb ⟨f, l, G, R, M, k⟩ := q4.1.trans hb4
  have hk5 : Boxed W5 Bk 28 (.int .u64 K) := q4.2.trans hk4
  clear hr4 hz4 q4 hb4 hk4 c0 c1 c2 c3 c4 c5 ck JJ
  obtain ⟨fn5, tmps5, assign5, body5, hy5, hr5⟩ := HY.out _ ⟨K, 1, hK, by decide⟩ W5 J5 (by simp)
  have hz5 : Sem.run Try.prog (Instr.yield ll #[.int .u64 (K : Int), .int .i64 1]) W5 = .ok (Next.round ll fn5 tmps5 assign5 body5) W5 := hy5
  obtain ⟨c0, c1, c2, c3, c4, c5⟩ := hb5.cells
  have ck := hk5.cell
  have JJ := Lib.hid J5
  clear hy5 J5
  gi_wp2
  refine hr5.mono ?_
  rintro e W6 ⟨rfl, J6, q5⟩
  have hb6 : Box6 W6 Bb ⟨f, l, G, R, M, k⟩ := q5.1.trans hb5
  have hk6 : Boxed W6 Bk 28 (.int .u64 K) := q5.2.trans hk5
  clear hr5 hz5 q5 hb5 hk5 c0 c1 c2 c3 c4 c5 ck JJ
  gi_wp2
  go_end0
  exact ⟨⟨_, rfl⟩, _, rfl, J6⟩
end Go.Proofs.Ytloknemmodmkiaa
