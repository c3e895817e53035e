/-
  BriefOrder returns true for every three briefs: joining right briefs hangs on no order, nor on which two are joined first; with none a brief is itself; what is joined is right, if it isn't too many.
  Conditions: none (every input; the law itself lets briefs go that are not right, or of more than 2^60).
-/
import Derived.Test.YtloknemmodmkiaaRef
import Derived.Test.YtloknemmodmkiaaOpen
namespace Go.Proofs.Ytloknemmodmkiaa.briefOrder
open Go.ChangeShapes Go.WideShapes Go.ChangeAt Go.RowKit Go.Joins

/-- Cells of three blocks stay, whatever is made behind them. -/
theorem next18 {w0 W W' : World} {x y z : Nat} {c0 c1 c2 c3 c4 c5 c6 c7 c8 c9 c10 c11 c12 c13 c14 c15 c16 c17 : Value} (l0 : x < w0.heap.size) (l1 : y < w0.heap.size) (l2 : z < w0.heap.size) (h : W.cell? ⟨x, 0, none⟩ = some (c0) ∧ W.cell? ⟨x, 1, none⟩ = some (c1) ∧ W.cell? ⟨x, 2, none⟩ = some (c2) ∧ W.cell? ⟨x, 3, none⟩ = some (c3) ∧ W.cell? ⟨x, 4, none⟩ = some (c4) ∧ W.cell? ⟨x, 5, none⟩ = some (c5) ∧ W.cell? ⟨y, 0, none⟩ = some (c6) ∧ W.cell? ⟨y, 1, none⟩ = some (c7) ∧ W.cell? ⟨y, 2, none⟩ = some (c8) ∧ W.cell? ⟨y, 3, none⟩ = some (c9) ∧ W.cell? ⟨y, 4, none⟩ = some (c10) ∧ W.cell? ⟨y, 5, none⟩ = some (c11) ∧ W.cell? ⟨z, 0, none⟩ = some (c12) ∧ W.cell? ⟨z, 1, none⟩ = some (c13) ∧ W.cell? ⟨z, 2, none⟩ = some (c14) ∧ W.cell? ⟨z, 3, none⟩ = some (c15) ∧ W.cell? ⟨z, 4, none⟩ = some (c16) ∧ W.cell? ⟨z, 5, none⟩ = some (c17) ∧ Below w0.heap.size w0 W) (hb : Below W.heap.size W W') : W'.cell? ⟨x, 0, none⟩ = some (c0) ∧ W'.cell? ⟨x, 1, none⟩ = some (c1) ∧ W'.cell? ⟨x, 2, none⟩ = some (c2) ∧ W'.cell? ⟨x, 3, none⟩ = some (c3) ∧ W'.cell? ⟨x, 4, none⟩ = some (c4) ∧ W'.cell? ⟨x, 5, none⟩ = some (c5) ∧ W'.cell? ⟨y, 0, none⟩ = some (c6) ∧ W'.cell? ⟨y, 1, none⟩ = some (c7) ∧ W'.cell? ⟨y, 2, none⟩ = some (c8) ∧ W'.cell? ⟨y, 3, none⟩ = some (c9) ∧ W'.cell? ⟨y, 4, none⟩ = some (c10) ∧ W'.cell? ⟨y, 5, none⟩ = some (c11) ∧ W'.cell? ⟨z, 0, none⟩ = some (c12) ∧ W'.cell? ⟨z, 1, none⟩ = some (c13) ∧ W'.cell? ⟨z, 2, none⟩ = some (c14) ∧ W'.cell? ⟨z, 3, none⟩ = some (c15) ∧ W'.cell? ⟨z, 4, none⟩ = some (c16) ∧ W'.cell? ⟨z, 5, none⟩ = some (c17) ∧ Below w0.heap.size w0 W' := by
  obtain ⟨s0, s1, s2, s3, s4, s5, s6, s7, s8, s9, s10, s11, s12, s13, s14, s15, s16, s17, sb⟩ := h
  have hc := (bcell hb).1
  exact ⟨(hc _ _ (Nat.lt_of_lt_of_le l0 sb.size)).trans s0, (hc _ _ (Nat.lt_of_lt_of_le l0 sb.size)).trans s1, (hc _ _ (Nat.lt_of_lt_of_le l0 sb.size)).trans s2, (hc _ _ (Nat.lt_of_lt_of_le l0 sb.size)).trans s3, (hc _ _ (Nat.lt_of_lt_of_le l0 sb.size)).trans s4, (hc _ _ (Nat.lt_of_lt_of_le l0 sb.size)).trans s5, (hc _ _ (Nat.lt_of_lt_of_le l1 sb.size)).trans s6, (hc _ _ (Nat.lt_of_lt_of_le l1 sb.size)).trans s7, (hc _ _ (Nat.lt_of_lt_of_le l1 sb.size)).trans s8, (hc _ _ (Nat.lt_of_lt_of_le l1 sb.size)).trans s9, (hc _ _ (Nat.lt_of_lt_of_le l1 sb.size)).trans s10, (hc _ _ (Nat.lt_of_lt_of_le l1 sb.size)).trans s11, (hc _ _ (Nat.lt_of_lt_of_le l2 sb.size)).trans s12, (hc _ _ (Nat.lt_of_lt_of_le l2 sb.size)).trans s13, (hc _ _ (Nat.lt_of_lt_of_le l2 sb.size)).trans s14, (hc _ _ (Nat.lt_of_lt_of_le l2 sb.size)).trans s15, (hc _ _ (Nat.lt_of_lt_of_le l2 sb.size)).trans s16, (hc _ _ (Nat.lt_of_lt_of_le l2 sb.size)).trans s17, sb.trans (hb.mono sb.size)⟩
/-- Cells of four. -/
theorem next24 {w0 W W' : World} {x y z u : Nat} {c0 c1 c2 c3 c4 c5 c6 c7 c8 c9 c10 c11 c12 c13 c14 c15 c16 c17 c18 c19 c20 c21 c22 c23 : Value} (l0 : x < w0.heap.size) (l1 : y < w0.heap.size) (l2 : z < w0.heap.size) (l3 : u < w0.heap.size) (h : W.cell? ⟨x, 0, none⟩ = some (c0) ∧ W.cell? ⟨x, 1, none⟩ = some (c1) ∧ W.cell? ⟨x, 2, none⟩ = some (c2) ∧ W.cell? ⟨x, 3, none⟩ = some (c3) ∧ W.cell? ⟨x, 4, none⟩ = some (c4) ∧ W.cell? ⟨x, 5, none⟩ = some (c5) ∧ W.cell? ⟨y, 0, none⟩ = some (c6) ∧ W.cell? ⟨y, 1, none⟩ = some (c7) ∧ W.cell? ⟨y, 2, none⟩ = some (c8) ∧ W.cell? ⟨y, 3, none⟩ = some (c9) ∧ W.cell? ⟨y, 4, none⟩ = some (c10) ∧ W.cell? ⟨y, 5, none⟩ = some (c11) ∧ W.cell? ⟨z, 0, none⟩ = some (c12) ∧ W.cell? ⟨z, 1, none⟩ = some (c13) ∧ W.cell? ⟨z, 2, none⟩ = some (c14) ∧ W.cell? ⟨z, 3, none⟩ = some (c15) ∧ W.cell? ⟨z, 4, none⟩ = some (c16) ∧ W.cell? ⟨z, 5, none⟩ = some (c17) ∧ W.cell? ⟨u, 0, none⟩ = some (c18) ∧ W.cell? ⟨u, 1, none⟩ = some (c19) ∧ W.cell? ⟨u, 2, none⟩ = some (c20) ∧ W.cell? ⟨u, 3, none⟩ = some (c21) ∧ W.cell? ⟨u, 4, none⟩ = some (c22) ∧ W.cell? ⟨u, 5, none⟩ = some (c23) ∧ Below w0.heap.size w0 W) (hb : Below W.heap.size W W') : W'.cell? ⟨x, 0, none⟩ = some (c0) ∧ W'.cell? ⟨x, 1, none⟩ = some (c1) ∧ W'.cell? ⟨x, 2, none⟩ = some (c2) ∧ W'.cell? ⟨x, 3, none⟩ = some (c3) ∧ W'.cell? ⟨x, 4, none⟩ = some (c4) ∧ W'.cell? ⟨x, 5, none⟩ = some (c5) ∧ W'.cell? ⟨y, 0, none⟩ = some (c6) ∧ W'.cell? ⟨y, 1, none⟩ = some (c7) ∧ W'.cell? ⟨y, 2, none⟩ = some (c8) ∧ W'.cell? ⟨y, 3, none⟩ = some (c9) ∧ W'.cell? ⟨y, 4, none⟩ = some (c10) ∧ W'.cell? ⟨y, 5, none⟩ = some (c11) ∧ W'.cell? ⟨z, 0, none⟩ = some (c12) ∧ W'.cell? ⟨z, 1, none⟩ = some (c13) ∧ W'.cell? ⟨z, 2, none⟩ = some (c14) ∧ W'.cell? ⟨z, 3, none⟩ = some (c15) ∧ W'.cell? ⟨z, 4, none⟩ = some (c16) ∧ W'.cell? ⟨z, 5, none⟩ = some (c17) ∧ W'.cell? ⟨u, 0, none⟩ = some (c18) ∧ W'.cell? ⟨u, 1, none⟩ = some (c19) ∧ W'.cell? ⟨u, 2, none⟩ = some (c20) ∧ W'.cell? ⟨u, 3, none⟩ = some (c21) ∧ W'.cell? ⟨u, 4, none⟩ = some (c22) ∧ W'.cell? ⟨u, 5, none⟩ = some (c23) ∧ Below w0.heap.size w0 W' := by
  obtain ⟨s0, s1, s2, s3, s4, s5, s6, s7, s8, s9, s10, s11, s12, s13, s14, s15, s16, s17, s18, s19, s20, s21, s22, s23, sb⟩ := h
  have hc := (bcell hb).1
  exact ⟨(hc _ _ (Nat.lt_of_lt_of_le l0 sb.size)).trans s0, (hc _ _ (Nat.lt_of_lt_of_le l0 sb.size)).trans s1, (hc _ _ (Nat.lt_of_lt_of_le l0 sb.size)).trans s2, (hc _ _ (Nat.lt_of_lt_of_le l0 sb.size)).trans s3, (hc _ _ (Nat.lt_of_lt_of_le l0 sb.size)).trans s4, (hc _ _ (Nat.lt_of_lt_of_le l0 sb.size)).trans s5, (hc _ _ (Nat.lt_of_lt_of_le l1 sb.size)).trans s6, (hc _ _ (Nat.lt_of_lt_of_le l1 sb.size)).trans s7, (hc _ _ (Nat.lt_of_lt_of_le l1 sb.size)).trans s8, (hc _ _ (Nat.lt_of_lt_of_le l1 sb.size)).trans s9, (hc _ _ (Nat.lt_of_lt_of_le l1 sb.size)).trans s10, (hc _ _ (Nat.lt_of_lt_of_le l1 sb.size)).trans s11, (hc _ _ (Nat.lt_of_lt_of_le l2 sb.size)).trans s12, (hc _ _ (Nat.lt_of_lt_of_le l2 sb.size)).trans s13, (hc _ _ (Nat.lt_of_lt_of_le l2 sb.size)).trans s14, (hc _ _ (Nat.lt_of_lt_of_le l2 sb.size)).trans s15, (hc _ _ (Nat.lt_of_lt_of_le l2 sb.size)).trans s16, (hc _ _ (Nat.lt_of_lt_of_le l2 sb.size)).trans s17, (hc _ _ (Nat.lt_of_lt_of_le l3 sb.size)).trans s18, (hc _ _ (Nat.lt_of_lt_of_le l3 sb.size)).trans s19, (hc _ _ (Nat.lt_of_lt_of_le l3 sb.size)).trans s20, (hc _ _ (Nat.lt_of_lt_of_le l3 sb.size)).trans s21, (hc _ _ (Nat.lt_of_lt_of_le l3 sb.size)).trans s22, (hc _ _ (Nat.lt_of_lt_of_le l3 sb.size)).trans s23, sb.trans (hb.mono sb.size)⟩

set_option maxHeartbeats 4000000 in
theorem walk (a b c : Br) (w : World) (ha : Fits a) (hb : Fits b) (hc : Fits c) :
    Calls Try.prog 5 #[.agg #[.int .i64 a.f, .int .i64 a.l, .int .u32 a.g, .int .u32 a.r, .int .u64 a.m, .bool a.k], .agg #[.int .i64 b.f, .int .i64 b.l, .int .u32 b.g, .int .u32 b.r, .int .u64 b.m, .bool b.k], .agg #[.int .i64 c.f, .int .i64 c.l, .int .u32 c.g, .int .u32 c.r, .int .u64 c.m, .bool c.k]] w fun e w' => e = .returned (.bool true) ∧ Below w.heap.size w w' := by
  obtain ⟨RA, hRA⟩ : ∃ R, rightB a = R := ⟨_, rfl⟩
  obtain ⟨RB, hRB⟩ : ∃ R, rightB b = R := ⟨_, rfl⟩
  obtain ⟨RC, hRC⟩ : ∃ R, rightB c = R := ⟨_, rfl⟩
  have HA := Lib.hid (fun W => right_R a ha RA hRA W)
  have HB := Lib.hid (fun W => right_R b hb RB hRB W)
  have HC := Lib.hid (fun W => right_R c hc RC hRC W)
  have KA := Lib.hid hRA
  have KB := Lib.hid hRB
  have KC := Lib.hid hRC
  have FA := Lib.hid ha
  have FB := Lib.hid hb
  have FC := Lib.hid hc
  clear hRA hRB hRC ha hb hc
  go_enter Try.func5, Try.ntmps5
  go_wp2_with fail
  refine (shown_any _).mono ?_
  rintro e w2 ⟨rfl, hb2⟩
  obtain ⟨hc, hf⟩ := bcell hb2
  have hz := hb2.size
  simp at hz
  have hz0 : w.heap.size < w2.heap.size := by omega
  have hz1 : w.heap.size + 1 < w2.heap.size := by omega
  have hz2 : w.heap.size + 1 + 1 < w2.heap.size := by omega
  have B2 : Below w.heap.size w w2 := (three_below w _ _ _).trans (hb2.mono (by simp; omega))
  have S3 : w2.cell? ⟨w.heap.size, 0, none⟩ = some (.int .i64 a.f) ∧ w2.cell? ⟨w.heap.size, 1, none⟩ = some (.int .i64 a.l) ∧ w2.cell? ⟨w.heap.size, 2, none⟩ = some (.int .u32 a.g) ∧ w2.cell? ⟨w.heap.size, 3, none⟩ = some (.int .u32 a.r) ∧ w2.cell? ⟨w.heap.size, 4, none⟩ = some (.int .u64 a.m) ∧ w2.cell? ⟨w.heap.size, 5, none⟩ = some (.bool a.k) ∧ w2.cell? ⟨w.heap.size + 1, 0, none⟩ = some (.int .i64 b.f) ∧ w2.cell? ⟨w.heap.size + 1, 1, none⟩ = some (.int .i64 b.l) ∧ w2.cell? ⟨w.heap.size + 1, 2, none⟩ = some (.int .u32 b.g) ∧ w2.cell? ⟨w.heap.size + 1, 3, none⟩ = some (.int .u32 b.r) ∧ w2.cell? ⟨w.heap.size + 1, 4, none⟩ = some (.int .u64 b.m) ∧ w2.cell? ⟨w.heap.size + 1, 5, none⟩ = some (.bool b.k) ∧ w2.cell? ⟨w.heap.size + 1 + 1, 0, none⟩ = some (.int .i64 c.f) ∧ w2.cell? ⟨w.heap.size + 1 + 1, 1, none⟩ = some (.int .i64 c.l) ∧ w2.cell? ⟨w.heap.size + 1 + 1, 2, none⟩ = some (.int .u32 c.g) ∧ w2.cell? ⟨w.heap.size + 1 + 1, 3, none⟩ = some (.int .u32 c.r) ∧ w2.cell? ⟨w.heap.size + 1 + 1, 4, none⟩ = some (.int .u64 c.m) ∧ w2.cell? ⟨w.heap.size + 1 + 1, 5, none⟩ = some (.bool c.k) ∧ Below w2.heap.size w2 w2 := by
    refine ⟨?_, ?_, ?_, ?_, ?_, ?_, ?_, ?_, ?_, ?_, ?_, ?_, ?_, ?_, ?_, ?_, ?_, ?_, Below.refl _ _⟩ <;> simp [hc, go_sem]
  clear hb2 hc hf hz
  go_wp2_with fail
  refine (HA.out _).mono ?_
  rintro e w3 ⟨rfl, hb3⟩
  replace S3 := next18 hz0 hz1 hz2 S3 hb3
  clear hb3
  cases RA
  case false =>
    have BB := B2.trans (S3.2.2.2.2.2.2.2.2.2.2.2.2.2.2.2.2.2.2.mono B2.size)
    go_wp2
    go_ret
    exact ⟨rfl, BB⟩
  go_wp2_with fail
  refine (HB.out _).mono ?_
  rintro e w4 ⟨rfl, hb4⟩
  replace S3 := next18 hz0 hz1 hz2 S3 hb4
  clear hb4
  cases RB
  case false =>
    have BB := B2.trans (S3.2.2.2.2.2.2.2.2.2.2.2.2.2.2.2.2.2.2.mono B2.size)
    go_wp2
    go_ret
    exact ⟨rfl, BB⟩
  go_wp2_with fail
  refine (HC.out _).mono ?_
  rintro e w5 ⟨rfl, hb5⟩
  replace S3 := next18 hz0 hz1 hz2 S3 hb5
  clear hb5
  cases RC
  case false =>
    have BB := B2.trans (S3.2.2.2.2.2.2.2.2.2.2.2.2.2.2.2.2.2.2.mono B2.size)
    go_wp2
    go_ret
    exact ⟨rfl, BB⟩
  by_cases m1 : 1152921504606846976 < a.m
  · have BB := B2.trans (S3.2.2.2.2.2.2.2.2.2.2.2.2.2.2.2.2.2.2.mono B2.size)
    go_wp2
    go_ret
    exact ⟨rfl, BB⟩
  by_cases m2 : 1152921504606846976 < b.m
  · have BB := B2.trans (S3.2.2.2.2.2.2.2.2.2.2.2.2.2.2.2.2.2.2.mono B2.size)
    go_wp2
    go_ret
    exact ⟨rfl, BB⟩
  by_cases m3 : 1152921504606846976 < c.m
  · have BB := B2.trans (S3.2.2.2.2.2.2.2.2.2.2.2.2.2.2.2.2.2.2.mono B2.size)
    go_wp2
    go_ret
    exact ⟨rfl, BB⟩
  obtain ⟨x, hx⟩ : ∃ x, joinB a b = x := ⟨_, rfl⟩
  obtain ⟨y, hy⟩ : ∃ y, joinB x c = y := ⟨_, rfl⟩
  obtain ⟨v, hv⟩ : ∃ v, joinB b c = v := ⟨_, rfl⟩
  have pa := FA.out.m1
  have pb := FB.out.m1
  have hba : joinB b a = x := by rw [← hx]; exact (join_comm FA.out FB.out KA.out KB.out).symm
  have hav : joinB a v = y := by rw [← hv, ← hy, ← hx]; exact (join_assoc FA.out FB.out FC.out (by omega)).symm
  have han : joinB a ⟨0, 0, 0, 0, 0, false⟩ = a := join_none_right FA.out KA.out
  have hna : joinB ⟨0, 0, 0, 0, 0, false⟩ a = a := join_none_left a
  have hxr : rightB x = true := by rw [← hx]; exact join_right FA.out FB.out KA.out KB.out (by omega)
  have hxf : Fits x := by rw [← hx]; exact join_fits FA.out FB.out
  have hxm : x.m = a.m + b.m := by rw [← hx]; exact join_many FA.out FB.out (by omega)
  have J0 := Lib.hid (fun W => join_R a b x hx W)
  have J1 := Lib.hid (fun W => join_R b a x hba W)
  have J2 := Lib.hid (fun W => join_R x c y hy W)
  have J3 := Lib.hid (fun W => join_R b c v hv W)
  have J4 := Lib.hid (fun W => join_R a v y hav W)
  have J5 := Lib.hid (fun W => join_R a ⟨0, 0, 0, 0, 0, false⟩ a han W)
  have J6 := Lib.hid (fun W => join_R ⟨0, 0, 0, 0, 0, false⟩ a a hna W)
  have J7 := Lib.hid (fun W => right_R x hxf true hxr W)
  have HXM := Lib.hid hxm
  clear hx hy hv hba hav han hna hxr hxf hxm
  go_wp2_with fail
  refine (J0.out _).mono ?_
  rintro e w6 ⟨rfl, hb6⟩
  replace S3 := next18 hz0 hz1 hz2 S3 hb6
  clear hb6
  have T6 : w2.heap.size ≤ w6.heap.size := S3.2.2.2.2.2.2.2.2.2.2.2.2.2.2.2.2.2.2.size
  have B6 : Below w.heap.size w w6 := B2.trans (S3.2.2.2.2.2.2.2.2.2.2.2.2.2.2.2.2.2.2.mono B2.size)
  have t0 : w.heap.size < w6.heap.size := by omega
  have t1 : w.heap.size + 1 < w6.heap.size := by omega
  have t2 : w.heap.size + 1 + 1 < w6.heap.size := by omega
  clear hz0 hz1 hz2 B2 T6
  have hex : ∀ W, (Op.equalIn 10000 30 (.agg #[.int .i64 x.f, .int .i64 x.l, .int .u32 x.g, .int .u32 x.r, .int .u64 x.m, .bool x.k]) (.agg #[.int .i64 x.f, .int .i64 x.l, .int .u32 x.g, .int .u32 x.r, .int .u64 x.m, .bool x.k])).run Try.prog W = .ok true W := fun W => by rw [eq30, decide_eq_true rfl]
  have hey : ∀ W, (Op.equalIn 10000 30 (.agg #[.int .i64 y.f, .int .i64 y.l, .int .u32 y.g, .int .u32 y.r, .int .u64 y.m, .bool y.k]) (.agg #[.int .i64 y.f, .int .i64 y.l, .int .u32 y.g, .int .u32 y.r, .int .u64 y.m, .bool y.k])).run Try.prog W = .ok true W := fun W => by rw [eq30, decide_eq_true rfl]
  have hea : ∀ W, (Op.equalIn 10000 30 (.agg #[.int .i64 a.f, .int .i64 a.l, .int .u32 a.g, .int .u32 a.r, .int .u64 a.m, .bool a.k]) (.agg #[.int .i64 a.f, .int .i64 a.l, .int .u32 a.g, .int .u32 a.r, .int .u64 a.m, .bool a.k])).run Try.prog W = .ok true W := fun W => by rw [eq30, decide_eq_true rfl]
  have hgd := Try.eqGuardType30
  obtain ⟨W0, hW0⟩ : ∃ W0, w6.alloc (.cells #[.int .i64 x.f, .int .i64 x.l, .int .u32 x.g, .int .u32 x.r, .int .u64 x.m, .bool x.k] 30) = W0 := ⟨_, rfl⟩
  have hBW : Below w6.heap.size w6 W0 := by rw [← hW0]; exact alloc_below _ _
  have hnx : W0.cell? ⟨w6.heap.size, 0, none⟩ = some (.int .i64 x.f) ∧ W0.cell? ⟨w6.heap.size, 1, none⟩ = some (.int .i64 x.l) ∧ W0.cell? ⟨w6.heap.size, 2, none⟩ = some (.int .u32 x.g) ∧ W0.cell? ⟨w6.heap.size, 3, none⟩ = some (.int .u32 x.r) ∧ W0.cell? ⟨w6.heap.size, 4, none⟩ = some (.int .u64 x.m) ∧ W0.cell? ⟨w6.heap.size, 5, none⟩ = some (.bool x.k) := by
    rw [← hW0]
    refine ⟨?_, ?_, ?_, ?_, ?_, ?_⟩ <;> simp [go_sem]
  have S0 : W0.drew.cell? ⟨w.heap.size, 0, none⟩ = some (.int .i64 a.f) ∧ W0.drew.cell? ⟨w.heap.size, 1, none⟩ = some (.int .i64 a.l) ∧ W0.drew.cell? ⟨w.heap.size, 2, none⟩ = some (.int .u32 a.g) ∧ W0.drew.cell? ⟨w.heap.size, 3, none⟩ = some (.int .u32 a.r) ∧ W0.drew.cell? ⟨w.heap.size, 4, none⟩ = some (.int .u64 a.m) ∧ W0.drew.cell? ⟨w.heap.size, 5, none⟩ = some (.bool a.k) ∧ W0.drew.cell? ⟨w.heap.size + 1, 0, none⟩ = some (.int .i64 b.f) ∧ W0.drew.cell? ⟨w.heap.size + 1, 1, none⟩ = some (.int .i64 b.l) ∧ W0.drew.cell? ⟨w.heap.size + 1, 2, none⟩ = some (.int .u32 b.g) ∧ W0.drew.cell? ⟨w.heap.size + 1, 3, none⟩ = some (.int .u32 b.r) ∧ W0.drew.cell? ⟨w.heap.size + 1, 4, none⟩ = some (.int .u64 b.m) ∧ W0.drew.cell? ⟨w.heap.size + 1, 5, none⟩ = some (.bool b.k) ∧ W0.drew.cell? ⟨w.heap.size + 1 + 1, 0, none⟩ = some (.int .i64 c.f) ∧ W0.drew.cell? ⟨w.heap.size + 1 + 1, 1, none⟩ = some (.int .i64 c.l) ∧ W0.drew.cell? ⟨w.heap.size + 1 + 1, 2, none⟩ = some (.int .u32 c.g) ∧ W0.drew.cell? ⟨w.heap.size + 1 + 1, 3, none⟩ = some (.int .u32 c.r) ∧ W0.drew.cell? ⟨w.heap.size + 1 + 1, 4, none⟩ = some (.int .u64 c.m) ∧ W0.drew.cell? ⟨w.heap.size + 1 + 1, 5, none⟩ = some (.bool c.k) ∧ W0.drew.cell? ⟨w6.heap.size, 0, none⟩ = some (.int .i64 x.f) ∧ W0.drew.cell? ⟨w6.heap.size, 1, none⟩ = some (.int .i64 x.l) ∧ W0.drew.cell? ⟨w6.heap.size, 2, none⟩ = some (.int .u32 x.g) ∧ W0.drew.cell? ⟨w6.heap.size, 3, none⟩ = some (.int .u32 x.r) ∧ W0.drew.cell? ⟨w6.heap.size, 4, none⟩ = some (.int .u64 x.m) ∧ W0.drew.cell? ⟨w6.heap.size, 5, none⟩ = some (.bool x.k) ∧ Below W0.heap.size W0 W0.drew := by
    obtain ⟨s0, s1, s2, s3, s4, s5, s6, s7, s8, s9, s10, s11, s12, s13, s14, s15, s16, s17, sb⟩ := next18 t0 t1 t2 ⟨S3.1, S3.2.1, S3.2.2.1, S3.2.2.2.1, S3.2.2.2.2.1, S3.2.2.2.2.2.1, S3.2.2.2.2.2.2.1, S3.2.2.2.2.2.2.2.1, S3.2.2.2.2.2.2.2.2.1, S3.2.2.2.2.2.2.2.2.2.1, S3.2.2.2.2.2.2.2.2.2.2.1, S3.2.2.2.2.2.2.2.2.2.2.2.1, S3.2.2.2.2.2.2.2.2.2.2.2.2.1, S3.2.2.2.2.2.2.2.2.2.2.2.2.2.1, S3.2.2.2.2.2.2.2.2.2.2.2.2.2.2.1, S3.2.2.2.2.2.2.2.2.2.2.2.2.2.2.2.1, S3.2.2.2.2.2.2.2.2.2.2.2.2.2.2.2.2.1, S3.2.2.2.2.2.2.2.2.2.2.2.2.2.2.2.2.2.1, Below.refl _ _⟩ hBW
    exact ⟨s0, s1, s2, s3, s4, s5, s6, s7, s8, s9, s10, s11, s12, s13, s14, s15, s16, s17, hnx.1, hnx.2.1, hnx.2.2.1, hnx.2.2.2.1, hnx.2.2.2.2.1, hnx.2.2.2.2.2, drew_below W0⟩
  have u0 : w.heap.size < W0.heap.size := Nat.lt_of_lt_of_le t0 hBW.size
  have u1 : w.heap.size + 1 < W0.heap.size := Nat.lt_of_lt_of_le t1 hBW.size
  have u2 : w.heap.size + 1 + 1 < W0.heap.size := Nat.lt_of_lt_of_le t2 hBW.size
  have u3 : w6.heap.size < W0.heap.size := by rw [← hW0]; simp
  have BW0 : Below w.heap.size w W0 := B6.trans (hBW.mono B6.size)
  have sm : IntKind.u64.wrap (a.m + b.m) = a.m + b.m := by rw [wrap_u64]; omega
  have em : (x.m == a.m + b.m) = true := beq_iff_eq.2 HXM.out
  clear S3 hnx hBW B6 t0 t1 t2
  go_wp2_with fail
  clear hW0
  go_region_held3 (fun w' => w'.cell? ⟨w.heap.size, 0, none⟩ = some (.int .i64 a.f) ∧ w'.cell? ⟨w.heap.size, 1, none⟩ = some (.int .i64 a.l) ∧ w'.cell? ⟨w.heap.size, 2, none⟩ = some (.int .u32 a.g) ∧ w'.cell? ⟨w.heap.size, 3, none⟩ = some (.int .u32 a.r) ∧ w'.cell? ⟨w.heap.size, 4, none⟩ = some (.int .u64 a.m) ∧ w'.cell? ⟨w.heap.size, 5, none⟩ = some (.bool a.k) ∧ w'.cell? ⟨w.heap.size + 1, 0, none⟩ = some (.int .i64 b.f) ∧ w'.cell? ⟨w.heap.size + 1, 1, none⟩ = some (.int .i64 b.l) ∧ w'.cell? ⟨w.heap.size + 1, 2, none⟩ = some (.int .u32 b.g) ∧ w'.cell? ⟨w.heap.size + 1, 3, none⟩ = some (.int .u32 b.r) ∧ w'.cell? ⟨w.heap.size + 1, 4, none⟩ = some (.int .u64 b.m) ∧ w'.cell? ⟨w.heap.size + 1, 5, none⟩ = some (.bool b.k) ∧ w'.cell? ⟨w.heap.size + 1 + 1, 0, none⟩ = some (.int .i64 c.f) ∧ w'.cell? ⟨w.heap.size + 1 + 1, 1, none⟩ = some (.int .i64 c.l) ∧ w'.cell? ⟨w.heap.size + 1 + 1, 2, none⟩ = some (.int .u32 c.g) ∧ w'.cell? ⟨w.heap.size + 1 + 1, 3, none⟩ = some (.int .u32 c.r) ∧ w'.cell? ⟨w.heap.size + 1 + 1, 4, none⟩ = some (.int .u64 c.m) ∧ w'.cell? ⟨w.heap.size + 1 + 1, 5, none⟩ = some (.bool c.k) ∧ w'.cell? ⟨w6.heap.size, 0, none⟩ = some (.int .i64 x.f) ∧ w'.cell? ⟨w6.heap.size, 1, none⟩ = some (.int .i64 x.l) ∧ w'.cell? ⟨w6.heap.size, 2, none⟩ = some (.int .u32 x.g) ∧ w'.cell? ⟨w6.heap.size, 3, none⟩ = some (.int .u32 x.r) ∧ w'.cell? ⟨w6.heap.size, 4, none⟩ = some (.int .u64 x.m) ∧ w'.cell? ⟨w6.heap.size, 5, none⟩ = some (.bool x.k) ∧ Below W0.heap.size W0 w')
    (first
      | assumption
      | exact next24 u0 u1 u2 u3 S0 (by assumption)
      | exact next24 u0 u1 u2 u3 (by assumption) (by assumption)
      | exact S0)
    (first
      | (go_at_call 18; (with_reducible refine (none_any _).mono ?_); rintro e w' ⟨rfl, hb⟩)
      | (go_at_call 16; (with_reducible refine (J7.out _).mono ?_); rintro e w' ⟨rfl, hb⟩)
      | (go_at_call 17; (with_reducible refine (J1.out _).mono ?_); rintro e w' ⟨rfl, hb⟩)
      | (go_at_call 17; (with_reducible refine (J2.out _).mono ?_); rintro e w' ⟨rfl, hb⟩)
      | (go_at_call 17; (with_reducible refine (J3.out _).mono ?_); rintro e w' ⟨rfl, hb⟩)
      | (go_at_call 17; (with_reducible refine (J4.out _).mono ?_); rintro e w' ⟨rfl, hb⟩)
      | (go_at_call 17; (with_reducible refine (J5.out _).mono ?_); rintro e w' ⟨rfl, hb⟩)
      | (go_at_call 17; (with_reducible refine (J6.out _).mono ?_); rintro e w' ⟨rfl, hb⟩))
  rename_i hS
  have B9 := BW0.trans (hS.2.2.2.2.2.2.2.2.2.2.2.2.2.2.2.2.2.2.2.2.2.2.2.2.mono BW0.size)
  clear hS S0 sm em
  go_wp2
  go_ret
  exact ⟨rfl, B9⟩

set_option maxRecDepth 100000 in
theorem lifted (os : Os) (started : os.Started) (H : Type) (enc : TypeId × Value → H) :
    ReturnsInHanded {} Try.checked os 5 .any (Rows.briefOrderSpec.pre6 enc Try.prog Try.f5 Rows.briefOrderRow.domain false) (Rows.briefOrderSpec.post enc Try.prog Try.f5 false true false false) := by
  refine returnsInHanded_of_change (C := Try.checked) own started (by kernel_rfl) Try.func5
    (ChangeSpec.witness6 (enc := enc) (C := Try.checked) false ⟨#[], #[.agg #[.int .i64 0, .int .i64 0, .int .u32 0, .int .u32 0, .int .u64 0, .bool false], .agg #[.int .i64 0, .int .i64 0, .int .u32 0, .int .u32 0, .int .u64 0, .bool false], .agg #[.int .i64 0, .int .i64 0, .int .u32 0, .int .u32 0, .int .u64 0, .bool false]], []⟩ 8 (by kernel_rfl) (by kernel_rfl) (by kernel_rfl) (by kernel_rfl)) ?_
  intro W base args ds gs before hval0 hW hcnd _
  have hval : ∀ (j : Nat) t v, Try.f5.params[j]? = some t → args[j]? = some v → Value.okWide Try.prog W .any base t v := hval0
  have hW' := hW
  obtain ⟨p, q, hA0, hV, rfl, hfz, hnd⟩ := hW
  have hA : DataW.TrodAll enc Try.prog W 0 (fun _ => true) true Try.f5.params.toList args.toList ds p := hA0
  rw [Try.params5] at hA hval
  obtain ⟨v0, vs0, d0, ds0, p0, q0, hargs, rfl, rfl, h0, r0⟩ := trodAll_cons hA
  obtain ⟨v1, vs1, d1, ds1, p1, q1, rfl, rfl, rfl, h1, r1⟩ := trodAll_cons r0
  obtain ⟨v2, vs2, d2, ds2, p2, q2, rfl, rfl, rfl, h2, r2⟩ := trodAll_cons r1
  obtain ⟨rfl, rfl, rfl⟩ := trodAll_nil r2
  obtain rfl : args = #[v0, v1, v2] := by cases args; simp_all
  obtain ⟨rfl, rfl⟩ := trodVars_none hV
  have lt0 : ∀ x ∈ p0, x.block < W.heap.size := by obtain ⟨m, hm⟩ := h0; exact DataW.trod_lt m _ _ _ hm
  have lt1 : ∀ x ∈ p1, x.block < W.heap.size := by obtain ⟨m, hm⟩ := h1; exact DataW.trod_lt m _ _ _ hm
  have lt2 : ∀ x ∈ p2, x.block < W.heap.size := by obtain ⟨m, hm⟩ := h2; exact DataW.trod_lt m _ _ _ hm
  obtain ⟨a, rfl, fa⟩ := open_brief (hval 0 30 v0 rfl rfl) h0
  obtain ⟨b, rfl, fb⟩ := open_brief (hval 1 30 v1 rfl rfl) h1
  obtain ⟨c, rfl, fc⟩ := open_brief (hval 2 30 v2 rfl rfl) h2
  clear hA0 hval0
  refine (walk a b c W fa fb fc).mono fun e W' ⟨he, bel⟩ => ?_
  subst he
  exact ⟨_, rfl, _, _, _, [], _, [], hW', trodAll_mk1 (shut_bool Try.underlying4 _), (trodAll_cons_mk (Below.trod laidOut (by kernel_rfl) (of_decide_eq_true (by kernel_rfl)) h0 bel lt0) (trodAll_cons_mk (Below.trod laidOut (by kernel_rfl) (of_decide_eq_true (by kernel_rfl)) h1 bel lt1) (trodAll_cons_mk (Below.trod laidOut (by kernel_rfl) (of_decide_eq_true (by kernel_rfl)) h2 bel lt2) trodAll_mk0))), rfl, bel.frame _, fun h => by cases h⟩

theorem over : Rows.briefOrderRow.holds Try.pinned (OpenSpec.ofChange Rows.briefOrderSpec) :=
  OpenClaim.holds_of_wide 5 Try.f5 rfl rfl rfl rfl rfl rfl rfl ⟨rfl, rfl, rfl, rfl, rfl⟩ rfl rfl rfl rfl rfl (by kernel_rfl) Try.func5 (by kernel_rfl)
    (of_decide_eq_true (by kernel_rfl)) (by unfold Func.isWrapper; first | (rw [if_pos (by decide +kernel)]; kernel_rfl) | (rw [if_neg (by decide +kernel)]; exact ⟨rfl, rfl⟩))
    (fun os started H enc _ => lifted os started H enc)

theorem proved : Rows.BriefOrderSaid := over
#print axioms proved
end Go.Proofs.Ytloknemmodmkiaa.briefOrder
