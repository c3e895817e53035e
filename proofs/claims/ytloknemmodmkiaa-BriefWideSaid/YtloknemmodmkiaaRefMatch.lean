/- Is an event asked for: the document's own answer. No conditions. -/
import Derived.Test.YtloknemmodmkiaaRef
namespace Go.Proofs.Ytloknemmodmkiaa
open Go.ChangeShapes Go.WideShapes Go.ChangeAt Go.RowKit

theorem of_out {g f a : Int} {k : Bool} (h : ¬ (0 ≤ g ∧ g < 8 ∧ 0 ≤ f ∧ f < 24)) : ofB g f a k = none6 := by
  unfold ofB withinB
  rw [if_neg]
  simp only [Bool.and_eq_true, decide_eq_true_eq]
  omega
theorem of_in {g f a : Int} {k : Bool} (h : 0 ≤ g ∧ g < 8 ∧ 0 ≤ f ∧ f < 24) : ofB g f a k = ⟨a, a, 2 ^ g.toNat, 2 ^ f.toNat, 1, k⟩ := by
  unfold ofB withinB
  rw [if_pos]
  simp only [Bool.and_eq_true, decide_eq_true_eq]
  omega
theorem rmatch_out (qf ql qg qr g f a : Int) (t : Bool) (ho ap pr id tx : ByteArray) (la : Option Addr) (n c : Nat) (w : World) (h : ¬ (0 ≤ g ∧ g < 8 ∧ 0 ≤ f ∧ f < 24)) :
    Calls Try.prog 11 #[.agg #[.int .i64 qf, .int .i64 ql, .int .u32 qg, .int .u32 qr], .agg #[.int .i64 g, .int .i64 f, .bool t, .int .i64 a, .string ho, .string ap, .string pr, .string id, .slice la n c, .string tx]] w fun e w' => e = .returned (.bool false) ∧ Below w.heap.size w w' := by
  rcases (show g < 0 ∨ (0 ≤ g ∧ 7 < g) ∨ (0 ≤ g ∧ g ≤ 7 ∧ f < 0) ∨ (0 ≤ g ∧ g ≤ 7 ∧ 0 ≤ f ∧ 23 < f) by omega) with h1 | ⟨h1, h2⟩ | ⟨h1, h2, h3⟩ | ⟨h1, h2, h3, h4⟩
  all_goals
    clear h
    go_enter Try.func11, Try.ntmps11
    go_wp2
    go_ret
    exact ⟨rfl, two_below w _ _⟩

set_option maxHeartbeats 4000000 in
theorem rmatch_in (qf ql qg qr g f a : Int) (t : Bool) (ho ap pr id tx : ByteArray) (la : Option Addr) (n c : Nat) (w : World) (h : 0 ≤ g ∧ g < 8 ∧ 0 ≤ f ∧ f < 24) :
    Calls Try.prog 11 #[.agg #[.int .i64 qf, .int .i64 ql, .int .u32 qg, .int .u32 qr], .agg #[.int .i64 g, .int .i64 f, .bool t, .int .i64 a, .string ho, .string ap, .string pr, .string id, .slice la n c, .string tx]] w fun e w' => e = .returned (.bool (mayB ⟨qf, ql, qg, qr⟩ (ofB g f a false))) ∧ Below w.heap.size w w' := by
  obtain ⟨R, hR⟩ : ∃ R, mayB ⟨qf, ql, qg, qr⟩ (ofB g f a false) = R := ⟨_, rfl⟩
  have hiff := may_iff ⟨qf, ql, qg, qr⟩ (ofB g f a false)
  rw [hR] at hiff ⊢
  rw [of_in h] at hiff
  obtain ⟨h1, h2, h3, h4⟩ := h
  obtain ⟨X, hX⟩ : ∃ X, (bits .and .u32 qg (2 ^ g.toNat) != 0) = X := ⟨_, rfl⟩
  obtain ⟨Y, hY⟩ : ∃ Y, (bits .and .u32 qr (2 ^ f.toNat) != 0) = Y := ⟨_, rfl⟩
  have hiff2 : R = true ↔ (qf ≤ a ∧ a ≤ ql) ∧ X = true ∧ Y = true := by
    rw [hiff, ← hX, ← hY]
    simp only [bne_iff_ne]
    constructor
    · rintro ⟨_, ⟨_, p, q, _⟩, x, y⟩; exact ⟨⟨p, q⟩, x, y⟩
    · rintro ⟨⟨p, q⟩, x, y⟩; exact ⟨by decide, ⟨Int.le_trans p q, p, q, Int.le_refl _⟩, x, y⟩
  have hcase : (decide (qf ≤ a) = false ∧ R = false) ∨ (decide (qf ≤ a) = true ∧ decide (a ≤ ql) = false ∧ R = false) ∨ (decide (qf ≤ a) = true ∧ decide (a ≤ ql) = true ∧ X = false ∧ R = false) ∨ (decide (qf ≤ a) = true ∧ decide (a ≤ ql) = true ∧ X = true ∧ Y = false ∧ R = false) ∨ (decide (qf ≤ a) = true ∧ decide (a ≤ ql) = true ∧ X = true ∧ Y = true ∧ R = true) := by
    simp only [decide_eq_true_eq, decide_eq_false_iff_not]
    by_cases p : qf ≤ a
    · by_cases q : a ≤ ql
      · cases X
        · exact .inr (.inr (.inl ⟨p, q, rfl, by rw [← Bool.not_eq_true, hiff2]; simp⟩))
        · cases Y
          · exact .inr (.inr (.inr (.inl ⟨p, q, rfl, rfl, by rw [← Bool.not_eq_true, hiff2]; simp⟩)))
          · exact .inr (.inr (.inr (.inr ⟨p, q, rfl, rfl, hiff2.2 ⟨⟨p, q⟩, rfl, rfl⟩⟩)))
      · exact .inr (.inl ⟨p, q, by rw [← Bool.not_eq_true, hiff2]; omega⟩)
    · exact .inl ⟨p, by rw [← Bool.not_eq_true, hiff2]; omega⟩
  clear hiff hiff2 hR
  have HG := Lib.hid (fun W => rbit_any g W h1 (by omega))
  have HF := Lib.hid (fun W => rbit_any f W h3 h4)
  generalize (2 : Int) ^ g.toNat = pg at hX HG
  generalize (2 : Int) ^ f.toNat = pf at hY HF
  have h5 : g ≤ 7 := by omega
  have h6 : f ≤ 23 := by omega
  clear h2 h4
  have d1 : decide (g < 0) = false := decide_eq_false (by omega)
  have d2 : decide (7 < g) = false := decide_eq_false (by omega)
  have d3 : decide (f < 0) = false := decide_eq_false (by omega)
  have d4 : decide (23 < f) = false := decide_eq_false (by omega)
  rcases hcase with ⟨k1, rfl⟩ | ⟨k1, k2, rfl⟩ | ⟨k1, k2, rfl, rfl⟩ | ⟨k1, k2, rfl, rfl, rfl⟩ | ⟨k1, k2, rfl, rfl, rfl⟩
  all_goals
    go_enter Try.func11, Try.ntmps11
    go_wp2
    go_quiet ((first | (go_at_call 21; (with_reducible exact quiet_left (HG.out _))) | (go_at_call 21; (with_reducible exact quiet_left (HF.out _)))))
    go_wp2
    go_ret
    exact ⟨rfl, (two_below w _ _).trans ((drewN_below _ _).mono (by simp; omega))⟩
theorem rmatch_at (qf ql qg qr g f a : Int) (t : Bool) (ho ap pr id tx : ByteArray) (la : Option Addr) (n c : Nat) (w : World) :
    Calls Try.prog 11 #[.agg #[.int .i64 qf, .int .i64 ql, .int .u32 qg, .int .u32 qr], .agg #[.int .i64 g, .int .i64 f, .bool t, .int .i64 a, .string ho, .string ap, .string pr, .string id, .slice la n c, .string tx]] w fun e w' => e = .returned (.bool (mayB ⟨qf, ql, qg, qr⟩ (ofB g f a false))) ∧ Below w.heap.size w w' := by
  by_cases h : 0 ≤ g ∧ g < 8 ∧ 0 ≤ f ∧ f < 24
  · exact rmatch_in qf ql qg qr g f a t ho ap pr id tx la n c w h
  · have e : mayB ⟨qf, ql, qg, qr⟩ (ofB g f a false) = false := by rw [of_out h]; rfl
    rw [e]
    exact rmatch_out qf ql qg qr g f a t ho ap pr id tx la n c w h
end Go.Proofs.Ytloknemmodmkiaa
