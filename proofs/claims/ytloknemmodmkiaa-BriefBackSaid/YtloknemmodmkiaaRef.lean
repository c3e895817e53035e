/- What is asked for, and what may be: the document's own answers; and its example. No conditions but what each theorem says. -/
import Derived.Test.YtloknemmodmkiaaMatch
import Derived.Test.YtloknemmodmkiaaJoined
namespace Go.Proofs.Ytloknemmodmkiaa
open Go.ChangeShapes Go.WideShapes Go.ChangeAt Go.RowKit

/-! ### a bit -/
theorem pow_two (k : Nat) : (2 : Int) ^ k + 2 ^ k = 2 ^ (k + 1) := by rw [Int.pow_succ]; omega
theorem pow_two_lt (k : Nat) (n : Int) (hn : n < 24) (h : (k : Int) < n) : (0 : Int) < 2 ^ k ∧ (2 : Int) ^ k < 8388609 := by
  refine ⟨Int.pow_pos (by decide), ?_⟩
  have h2 : (2 : Nat) ^ k ≤ 2 ^ 23 := Nat.pow_le_pow_right (by decide) (by omega)
  have h3 : ((2 ^ k : Nat) : Int) ≤ ((2 ^ 23 : Nat) : Int) := Int.ofNat_le.2 h2
  have h4 : ((2 ^ 23 : Nat) : Int) = 8388608 := by decide
  rw [h4] at h3
  simp at h3
  omega
theorem rbit_any (n : Int) (w : World) (h0 : 0 ≤ n) (h1 : n < 24) : Calls Try.prog 21 #[.int .i64 n] w fun e w' => e = .returned (.int .u32 (2 ^ n.toNat)) ∧ w = w' := by
  go_enter Try.func21, Try.ntmps21
  go_wp2
  go_loop [3, 4] (fun v i => ∃ (k : Nat) (p : Int), (k : Int) ≤ n ∧ i = .int .i64 k ∧ v = .int .u32 p ∧ p = 2 ^ k) (fun _ i => n.toNat - (intOf i).toNat)
  case atStart => exact ⟨0, 1, by omega, rfl, rfl, rfl⟩
  case round =>
    obtain ⟨k, p, hk, rfl, rfl, hp⟩ := hrel
    by_cases hlt : (k : Int) < n
    · obtain ⟨b1, b2⟩ := pow_two_lt k n h1 hlt
      rw [← hp] at b1 b2
      have HP := Lib.hid hp
      clear hp
      go_wp2
      go_round
      case rel => exact ⟨k + 1, p + p, by omega, by go_num, rfl, by rw [HP.out]; exact pow_two k⟩
      case measure => simp [intOf]; omega
    · have hkn : (k : Int) = n := by omega
      have HP := Lib.hid (show (2 : Int) ^ n.toNat = p by rw [hp, ← hkn]; rfl)
      have HK := Lib.hid hkn
      clear hp hkn
      go_wp2
      go_ret
      exact ⟨by rw [HP.out]; rfl, rfl⟩

/-! ### may one of some be -/
set_option maxHeartbeats 1000000 in
theorem rmay_at (qf ql qg qr f l g r m : Int) (k : Bool) (w : World) :
    Calls Try.prog 13 #[.agg #[.int .i64 qf, .int .i64 ql, .int .u32 qg, .int .u32 qr], .agg #[.int .i64 f, .int .i64 l, .int .u32 g, .int .u32 r, .int .u64 m, .bool k]] w fun e w' =>
      e = .returned (.bool (mayB ⟨qf, ql, qg, qr⟩ ⟨f, l, g, r, m, k⟩)) ∧ Below w.heap.size w w' := by
  obtain ⟨R, hR⟩ : ∃ R, mayB ⟨qf, ql, qg, qr⟩ ⟨f, l, g, r, m, k⟩ = R := ⟨_, rfl⟩
  rw [hR]
  by_cases c1 : m = 0
  · subst c1
    obtain rfl : R = false := by rw [← hR]; rfl
    clear hR
    go_enter Try.func13, Try.ntmps13
    go_wp2
    go_ret
    exact ⟨rfl, two_below w _ _⟩
  · have n1 : (m == 0) = false := beq_eq_false_iff_ne.2 c1
    have hR2 : R = (decide (¬ (if f > qf then f else qf) > (if l < ql then l else ql)) && bits .and .u32 qg g != 0 && bits .and .u32 qr r != 0) := by
      rw [← hR]; unfold mayB; simp only [bne, n1, Bool.not_false, Bool.true_and]
    clear hR n1
    by_cases a1 : f > qf
    all_goals
      by_cases a2 : l < ql
      all_goals
        by_cases a3 : (if f > qf then f else qf) > (if l < ql then l else ql)
        · have hF : R = false := by rw [hR2]; simp only [a3, not_true, decide_false, Bool.false_and]
          simp only [a1, a2, if_true, if_false] at a3
          clear hR2
          subst hF
          go_enter Try.func13, Try.ntmps13
          go_wp2
          go_ret
          exact ⟨rfl, two_below w _ _⟩
        · have hR3 : R = (bits .and .u32 qg g != 0 && bits .and .u32 qr r != 0) := by rw [hR2]; simp only [a3, not_false_eq_true, decide_true, Bool.true_and]
          simp only [a1, a2, if_true, if_false] at a3
          clear hR2
          by_cases a4 : bits .and .u32 qg g = 0
          · have e4 : (bits .and .u32 qg g != 0) = false := by rw [bne, beq_iff_eq.2 a4]; rfl
            have hF : R = false := by rw [hR3, e4]; rfl
            clear hR3 a4
            subst hF
            go_enter Try.func13, Try.ntmps13
            go_wp2
            go_ret
            exact ⟨rfl, two_below w _ _⟩
          · have e4 : (bits .and .u32 qg g != 0) = true := bne_iff_ne.2 a4
            have hR4 : R = (bits .and .u32 qr r != 0) := by rw [hR3, e4]; rfl
            clear hR3 a4
            obtain ⟨Y, hY⟩ : ∃ Y, (bits .and .u32 qr r != 0) = Y := ⟨_, rfl⟩
            rw [hY] at hR4
            cases Y
            all_goals
              obtain rfl := hR4
              go_enter Try.func13, Try.ntmps13
              go_wp2
              go_ret
              exact ⟨rfl, two_below w _ _⟩
theorem rmay_R (q : Qu) (b : Br) (R : Bool) (h : mayB q b = R) (w : World) :
    Calls Try.prog 13 #[.agg #[.int .i64 q.f, .int .i64 q.l, .int .u32 q.g, .int .u32 q.r], .agg #[.int .i64 b.f, .int .i64 b.l, .int .u32 b.g, .int .u32 b.r, .int .u64 b.m, .bool b.k]] w fun e w' =>
      e = .returned (.bool R) ∧ Below w.heap.size w w' := by
  rw [← h]
  exact rmay_at q.f q.l q.g q.r b.f b.l b.g b.r b.m b.k w

/-! ### the document's example -/
theorem shown_any (w : World) : Calls Try.prog 9 #[] w fun e w' => e = .returned (.bool true) ∧ Below w.heap.size w w' := by
  have hgd := Try.eqGuardType30
  have he := fun W => eq30 ⟨5, 5, 8, 16, 1, false⟩ ⟨5, 5, 8, 16, 1, false⟩ W
  have he' : ∀ W, (Op.equalIn 10000 30 (.agg #[.int .i64 5, .int .i64 5, .int .u32 8, .int .u32 16, .int .u64 1, .bool false]) (.agg #[.int .i64 5, .int .i64 5, .int .u32 8, .int .u32 16, .int .u64 1, .bool false])).run Try.prog W = .ok true W := he
  clear he
  have HO : Hid (∀ W : World, Calls Try.prog 14 #[.agg #[.int .i64 3, .int .i64 4, .bool false, .int .i64 5, .string ⟨#[]⟩, .string ⟨#[]⟩, .string ⟨#[]⟩, .string ⟨#[]⟩, .slice none 0 0, .string ⟨#[]⟩], .bool false] W fun e w' =>
      e = .returned (.agg #[.int .i64 5, .int .i64 5, .int .u32 8, .int .u32 16, .int .u64 1, .bool false]) ∧ Below W.heap.size W w') := Lib.hid fun W => of_any 3 4 5 false ⟨#[]⟩ ⟨#[]⟩ ⟨#[]⟩ ⟨#[]⟩ ⟨#[]⟩ none 0 0 false W
  go_enter Try.func9, Try.ntmps9
  go_wp2_with fail
  refine (HO.out _).mono ?_
  rintro e w' ⟨rfl, hb⟩
  go_wp2
  go_ret
  exact ⟨rfl, hb.trans ((alloc_below w' _).mono hb.size)⟩
end Go.Proofs.Ytloknemmodmkiaa
