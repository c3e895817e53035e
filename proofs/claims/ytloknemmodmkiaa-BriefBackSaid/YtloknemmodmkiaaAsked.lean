/- What is asked for, and what may be: the program's answers and the document's own. No conditions but what each theorem says. -/
import Derived.Test.YtloknemmodmkiaaCalls
namespace Go.Proofs.Ytloknemmodmkiaa
open Go.ChangeShapes Go.WideShapes Go.ChangeAt Go.RowKit

theorem two_below (w : World) (o1 o2 : Obj) : Below w.heap.size w ((w.alloc o1).alloc o2) := ((Below.refl _ _).alloc (Nat.le_refl _) _).alloc (by simp) _

/-! ### may one of some be -/
set_option maxHeartbeats 1000000 in
theorem may_at (qf ql qg qr f l g r m : Int) (k : Bool) (w : World) :
    Calls Try.prog 12 #[.agg #[.int .i64 qf, .int .i64 ql, .int .u32 qg, .int .u32 qr], .agg #[.int .i64 f, .int .i64 l, .int .u32 g, .int .u32 r, .int .u64 m, .bool k]] w fun e w' =>
      e = .returned (.bool (mayB ⟨qf, ql, qg, qr⟩ ⟨f, l, g, r, m, k⟩)) ∧ Below w.heap.size w w' := by
  obtain ⟨R, hR⟩ : ∃ R, mayB ⟨qf, ql, qg, qr⟩ ⟨f, l, g, r, m, k⟩ = R := ⟨_, rfl⟩
  rw [hR]
  by_cases c1 : m = 0
  · subst c1
    obtain rfl : R = false := by rw [← hR]; rfl
    clear hR
    go_enter Try.func12, Try.ntmps12
    go_wp2
    go_ret
    exact ⟨rfl, two_below w _ _⟩
  · have n1 : (m == 0) = false := beq_eq_false_iff_ne.2 c1
    have hR2 : R = (decide (¬ (if f > qf then f else qf) > (if l < ql then l else ql)) && bits .and .u32 qg g != 0 && bits .and .u32 qr r != 0) := by
      rw [← hR]; unfold mayB; simp only [bne, n1, Bool.not_false, Bool.true_and]
    clear hR n1
    by_cases a1 : f > qf
    all_goals
      by_cases a2 : l < ql
      all_goals
        by_cases a3 : (if f > qf then f else qf) > (if l < ql then l else ql)
        · have hF : R = false := by rw [hR2]; simp only [a3, not_true, decide_false, Bool.false_and]
          simp only [a1, a2, if_true, if_false] at a3
          clear hR2
          subst hF
          go_enter Try.func12, Try.ntmps12
          go_wp2
          go_ret
          exact ⟨rfl, two_below w _ _⟩
        · have hR3 : R = (bits .and .u32 qg g != 0 && bits .and .u32 qr r != 0) := by rw [hR2]; simp only [a3, not_false_eq_true, decide_true, Bool.true_and]
          simp only [a1, a2, if_true, if_false] at a3
          clear hR2
          by_cases a4 : bits .and .u32 qg g = 0
          · have e4 : (bits .and .u32 qg g == 0) = true := beq_iff_eq.2 a4
            have hF : R = false := by rw [hR3, bne, e4]; rfl
            clear hR3 a4
            subst hF
            go_enter Try.func12, Try.ntmps12
            go_wp2
            go_ret
            exact ⟨rfl, two_below w _ _⟩
          · have e4 : (bits .and .u32 qg g == 0) = false := beq_eq_false_iff_ne.2 a4
            have hR4 : R = !(bits .and .u32 qr r == 0) := by rw [hR3, bne, e4, bne]; rfl
            clear hR3 a4
            obtain ⟨Y, hY⟩ : ∃ Y, (bits .and .u32 qr r == 0) = Y := ⟨_, rfl⟩
            rw [hY] at hR4
            cases Y
            all_goals
              obtain rfl := hR4
              go_enter Try.func12, Try.ntmps12
              go_wp2
              go_ret
              exact ⟨rfl, two_below w _ _⟩
theorem may_R (q : Qu) (b : Br) (R : Bool) (h : mayB q b = R) (w : World) :
    Calls Try.prog 12 #[.agg #[.int .i64 q.f, .int .i64 q.l, .int .u32 q.g, .int .u32 q.r], .agg #[.int .i64 b.f, .int .i64 b.l, .int .u32 b.g, .int .u32 b.r, .int .u64 b.m, .bool b.k]] w fun e w' =>
      e = .returned (.bool R) ∧ Below w.heap.size w w' := by
  rw [← h]
  exact may_at q.f q.l q.g q.r b.f b.l b.g b.r b.m b.k w
end Go.Proofs.Ytloknemmodmkiaa
