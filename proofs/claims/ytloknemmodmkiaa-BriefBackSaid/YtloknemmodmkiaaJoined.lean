/- Is a brief right, and two joined: the program's answers. Condition: a brief's numbers fit their kinds. -/
import Derived.Test.YtloknemmodmkiaaCalls
namespace Go.Proofs.Ytloknemmodmkiaa
open Go.ChangeShapes Go.WideShapes Go.ChangeAt Go.RowKit

/-! ### two briefs compared -/
theorem eq30 (a b : Br) (w : World) : (Op.equalIn 10000 30 (.agg #[.int .i64 a.f, .int .i64 a.l, .int .u32 a.g, .int .u32 a.r, .int .u64 a.m, .bool a.k]) (.agg #[.int .i64 b.f, .int .i64 b.l, .int .u32 b.g, .int .u32 b.r, .int .u64 b.m, .bool b.k])).run Try.prog w = .ok (decide (a = b)) w := by
  have u2 := Try.underlying2
  have u22 := Try.underlying22
  have u28 := Try.underlying28
  have u4 := Try.underlying4
  have a2 := Try.isAgg2
  have a22 := Try.isAgg22
  have a28 := Try.isAgg28
  have a4 := Try.isAgg4
  have z2 := Try.sizeOf2
  have z22 := Try.sizeOf22
  have z28 := Try.sizeOf28
  have z4 := Try.sizeOf4
  have hS : Try.prog.underlying 30 = some (.struct (Try.prog.fieldsOf 30)) := by kernel_rfl
  rw [show (10000 : Nat) = 9999 + 1 from rfl, run_equalIn_agg w 9999 30 _ _ hS Try.stoodInHeld30]
  simp only [Program.fieldsOf, Try.underlying30]
  go_simp
  obtain ⟨f, l, g, r, m, k⟩ := a
  obtain ⟨f', l', g', r', m', k'⟩ := b
  simp only [Br.mk.injEq]
  by_cases h0 : f = f'
  case neg => simp [h0]
  by_cases h1 : l = l'
  case neg => simp [h0, h1]
  by_cases h2 : g = g'
  case neg => simp [h0, h1, h2]
  by_cases h3 : r = r'
  case neg => simp [h0, h1, h2, h3]
  by_cases h4 : m = m'
  case neg => simp [h0, h1, h2, h3, h4]
  by_cases h5 : k = k'
  case neg => simp [h0, h1, h2, h3, h4, h5]
  simp [h0, h1, h2, h3, h4, h5]
theorem none6_k : none6.k = false := rfl

/-- Cells of a block stay, whatever is made behind it. -/
theorem next6 {w0 W W' : World} {b : Nat} {c0 c1 c2 c3 c4 c5 : Value} (l0 : b < w0.heap.size) (h : W.cell? ⟨b, 0, none⟩ = some (c0) ∧ W.cell? ⟨b, 1, none⟩ = some (c1) ∧ W.cell? ⟨b, 2, none⟩ = some (c2) ∧ W.cell? ⟨b, 3, none⟩ = some (c3) ∧ W.cell? ⟨b, 4, none⟩ = some (c4) ∧ W.cell? ⟨b, 5, none⟩ = some (c5) ∧ Below w0.heap.size w0 W) (hb : Below W.heap.size W W') : W'.cell? ⟨b, 0, none⟩ = some (c0) ∧ W'.cell? ⟨b, 1, none⟩ = some (c1) ∧ W'.cell? ⟨b, 2, none⟩ = some (c2) ∧ W'.cell? ⟨b, 3, none⟩ = some (c3) ∧ W'.cell? ⟨b, 4, none⟩ = some (c4) ∧ W'.cell? ⟨b, 5, none⟩ = some (c5) ∧ Below w0.heap.size w0 W' := by
  obtain ⟨s0, s1, s2, s3, s4, s5, sb⟩ := h
  have hc := (bcell hb).1
  exact ⟨(hc _ _ (Nat.lt_of_lt_of_le l0 sb.size)).trans s0, (hc _ _ (Nat.lt_of_lt_of_le l0 sb.size)).trans s1, (hc _ _ (Nat.lt_of_lt_of_le l0 sb.size)).trans s2, (hc _ _ (Nat.lt_of_lt_of_le l0 sb.size)).trans s3, (hc _ _ (Nat.lt_of_lt_of_le l0 sb.size)).trans s4, (hc _ _ (Nat.lt_of_lt_of_le l0 sb.size)).trans s5, sb.trans (hb.mono sb.size)⟩

theorem right_last (f l g r m : Int) (k : Bool) (h0 : ¬ (⟨f, l, g, r, m, k⟩ : Br) = none6) : rightB ⟨f, l, g, r, m, k⟩ = (m != 0 && decide (f ≤ l) && bitsB g 8 && bitsB r 24) := by
  unfold rightB
  rw [decide_eq_false h0, Bool.false_or]

set_option maxHeartbeats 2000000 in
theorem right_at (f l g r m : Int) (k : Bool) (w : World) (hg : 0 ≤ g ∧ g < 4294967296) (hr : 0 ≤ r ∧ r < 4294967296) :
    Calls Try.prog 16 #[.agg #[.int .i64 f, .int .i64 l, .int .u32 g, .int .u32 r, .int .u64 m, .bool k]] w fun e w' =>
      e = .returned (.bool (rightB ⟨f, l, g, r, m, k⟩)) ∧ Below w.heap.size w w' := by
  obtain ⟨R, hR⟩ : ∃ R, rightB ⟨f, l, g, r, m, k⟩ = R := ⟨_, rfl⟩
  rw [hR]
  have he := fun W => eq30 ⟨f, l, g, r, m, k⟩ none6 W
  obtain ⟨C0, hC0⟩ : ∃ C0, decide ((⟨f, l, g, r, m, k⟩ : Br) = none6) = C0 := ⟨_, rfl⟩
  rw [hC0] at he
  have he' : ∀ W, (Op.equalIn 10000 30 (.agg #[.int .i64 f, .int .i64 l, .int .u32 g, .int .u32 r, .int .u64 m, .bool k]) (.agg #[.int .i64 0, .int .i64 0, .int .u32 0, .int .u32 0, .int .u64 0, .bool false])).run Try.prog W = .ok C0 W := he
  have hgd := Try.eqGuardType30
  clear he
  have H8 := Lib.hid (fun W => bits_any g 8 W hg.1 hg.2 (by decide))
  have H24 := Lib.hid (fun W => bits_any r 24 W hr.1 hr.2 (by decide))
  obtain ⟨C3, hC3⟩ : ∃ C3, bitsB g 8 = C3 := ⟨_, rfl⟩
  obtain ⟨C4, hC4⟩ : ∃ C4, bitsB r 24 = C4 := ⟨_, rfl⟩
  rw [hC3] at H8
  rw [hC4] at H24
  have hcase : (C0 = true ∧ R = true) ∨ (C0 = false ∧ (m == 0) = true ∧ R = false) ∨ (C0 = false ∧ (m == 0) = false ∧ f > l ∧ R = false) ∨ (C0 = false ∧ (m == 0) = false ∧ ¬ f > l ∧ C3 = false ∧ R = false) ∨ (C0 = false ∧ (m == 0) = false ∧ ¬ f > l ∧ C3 = true ∧ C4 = R) := by
    cases C0
    · refine .inr ?_
      have hl := right_last f l g r m k (of_decide_eq_false hC0)
      rw [hR, hC3, hC4] at hl
      by_cases h1 : m = 0
      · exact .inl ⟨rfl, beq_iff_eq.2 h1, by rw [hl, h1]; rfl⟩
      · have e1 : (m != 0) = true := bne_iff_ne.2 h1
        have h1 := beq_eq_false_iff_ne.2 h1
        rw [e1, Bool.true_and] at hl
        by_cases h2 : f > l
        · exact .inr (.inl ⟨rfl, h1, h2, by rw [hl, decide_eq_false (by omega)]; rfl⟩)
        · rw [decide_eq_true (by omega), Bool.true_and] at hl
          cases C3
          · exact .inr (.inr (.inl ⟨rfl, h1, h2, rfl, by rw [hl]; rfl⟩))
          · exact .inr (.inr (.inr ⟨rfl, h1, h2, rfl, by rw [hl]; rfl⟩))
    · refine .inl ⟨rfl, ?_⟩
      rw [← hR]; unfold rightB; rw [hC0]; rfl
  clear hC0 hC3 hC4 hR hg hr
  have hlt : ∀ o, w.heap.size < (w.alloc o).heap.size := fun o => by simp
  have S1 : ∀ o, Below w.heap.size w (w.alloc o) := fun o => alloc_below w o
  have HL := Lib.hid hlt
  have HB := Lib.hid S1
  clear hlt S1
  rcases hcase with ⟨rfl, rfl⟩ | ⟨rfl, n1, rfl⟩ | ⟨rfl, n1, n2, rfl⟩ | ⟨rfl, n1, n2, rfl, rfl⟩ | ⟨rfl, n1, n2, rfl, rfl⟩
  case' inr.inr.inr.inr => cases C4
  all_goals
    go_enter Try.func16, Try.ntmps16
    go_wp2
    obtain ⟨W0, hW0⟩ : ∃ W0, w.alloc (.cells #[.int .i64 f, .int .i64 l, .int .u32 g, .int .u32 r, .int .u64 m, .bool k] 30) = W0 := ⟨_, rfl⟩
    have S0 : W0.drew.cell? ⟨w.heap.size, 0, none⟩ = some (.int .i64 f) ∧ W0.drew.cell? ⟨w.heap.size, 1, none⟩ = some (.int .i64 l) ∧ W0.drew.cell? ⟨w.heap.size, 2, none⟩ = some (.int .u32 g) ∧ W0.drew.cell? ⟨w.heap.size, 3, none⟩ = some (.int .u32 r) ∧ W0.drew.cell? ⟨w.heap.size, 4, none⟩ = some (.int .u64 m) ∧ W0.drew.cell? ⟨w.heap.size, 5, none⟩ = some (.bool k) ∧ Below W0.heap.size W0 W0.drew := by
      refine ⟨?_, ?_, ?_, ?_, ?_, ?_, drew_below W0⟩ <;> (rw [← hW0]; simp [go_sem])
    have hz0 : w.heap.size < W0.heap.size := by rw [← hW0]; exact HL.out _
    have hb0 : Below w.heap.size w W0 := by rw [← hW0]; exact HB.out _
    rw [hW0]
    clear hW0
    go_region_held3 (fun w' => w'.cell? ⟨w.heap.size, 0, none⟩ = some (.int .i64 f) ∧ w'.cell? ⟨w.heap.size, 1, none⟩ = some (.int .i64 l) ∧ w'.cell? ⟨w.heap.size, 2, none⟩ = some (.int .u32 g) ∧ w'.cell? ⟨w.heap.size, 3, none⟩ = some (.int .u32 r) ∧ w'.cell? ⟨w.heap.size, 4, none⟩ = some (.int .u64 m) ∧ w'.cell? ⟨w.heap.size, 5, none⟩ = some (.bool k) ∧ Below W0.heap.size W0 w')
      (first
        | assumption
        | exact next6 hz0 S0 (by assumption)
        | exact next6 hz0 (by assumption) (by assumption)
        | exact S0)
      (first
        | (go_at_call 18; (with_reducible refine (none_any _).mono ?_); rintro e w' ⟨rfl, hb⟩))
    rename_i hS
    obtain ⟨s0, s1, s2, s3, s4, s5, sb⟩ := hS
    have B6 := hb0.trans (sb.mono hb0.size)
    clear S0 sb hz0 hb0
    go_wp2_with (first
        | (go_at_call 24; (with_reducible refine (H8.out _).mono ?_); rintro e w' ⟨rfl, rfl⟩)
        | (go_at_call 24; (with_reducible refine (H24.out _).mono ?_); rintro e w' ⟨rfl, rfl⟩))
    go_ret
    exact ⟨rfl, B6⟩
theorem right_R (b : Br) (h : Fits b) (R : Bool) (hR : rightB b = R) (w : World) :
    Calls Try.prog 16 #[.agg #[.int .i64 b.f, .int .i64 b.l, .int .u32 b.g, .int .u32 b.r, .int .u64 b.m, .bool b.k]] w fun e w' => e = .returned (.bool R) ∧ Below w.heap.size w w' := by
  rw [← hR]
  exact right_at b.f b.l b.g b.r b.m b.k w ⟨h.g1, h.g2⟩ ⟨h.r1, h.r2⟩

/-! ### two joined -/
theorem three_below (w : World) (o1 o2 o3 : Obj) : Below w.heap.size w (((w.alloc o1).alloc o2).alloc o3) := (((Below.refl _ _).alloc (Nat.le_refl _) _).alloc (by simp) _).alloc (by simp; omega) _
set_option maxHeartbeats 2000000 in
theorem join_at (f l g r m : Int) (k : Bool) (f' l' g' r' m' : Int) (k' : Bool) (w : World) :
    Calls Try.prog 17 #[.agg #[.int .i64 f, .int .i64 l, .int .u32 g, .int .u32 r, .int .u64 m, .bool k], .agg #[.int .i64 f', .int .i64 l', .int .u32 g', .int .u32 r', .int .u64 m', .bool k']] w fun e w' =>
      e = .returned (.agg #[.int .i64 (joinB ⟨f, l, g, r, m, k⟩ ⟨f', l', g', r', m', k'⟩).f, .int .i64 (joinB ⟨f, l, g, r, m, k⟩ ⟨f', l', g', r', m', k'⟩).l, .int .u32 (joinB ⟨f, l, g, r, m, k⟩ ⟨f', l', g', r', m', k'⟩).g, .int .u32 (joinB ⟨f, l, g, r, m, k⟩ ⟨f', l', g', r', m', k'⟩).r, .int .u64 (joinB ⟨f, l, g, r, m, k⟩ ⟨f', l', g', r', m', k'⟩).m, .bool (joinB ⟨f, l, g, r, m, k⟩ ⟨f', l', g', r', m', k'⟩).k]) ∧ Below w.heap.size w w' := by
  by_cases h1 : m = 0
  · have e1 : (m == 0) = true := beq_iff_eq.2 h1
    have hJ : joinB ⟨f, l, g, r, m, k⟩ ⟨f', l', g', r', m', k'⟩ = ⟨f', l', g', r', m', k'⟩ := by unfold joinB; rw [if_pos h1]
    rw [hJ]
    clear hJ h1
    go_enter Try.func17, Try.ntmps17
    go_wp2
    exact bodyPost_ret (v := .agg #[.int .i64 f', .int .i64 l', .int .u32 g', .int .u32 r', .int .u64 m', .bool k']) (by simp [results, Try.results17, go_sem]) rfl ⟨rfl, three_below w _ _ _⟩
  · have e1 : (m == 0) = false := beq_eq_false_iff_ne.2 h1
    by_cases h2 : m' = 0
    · have e2 : (m' == 0) = true := beq_iff_eq.2 h2
      have hJ : joinB ⟨f, l, g, r, m, k⟩ ⟨f', l', g', r', m', k'⟩ = ⟨f, l, g, r, m, k⟩ := by unfold joinB; rw [if_neg h1, if_pos h2]
      rw [hJ]
      clear hJ h1 h2
      go_enter Try.func17, Try.ntmps17
      go_wp2
      exact bodyPost_ret (v := .agg #[.int .i64 f, .int .i64 l, .int .u32 g, .int .u32 r, .int .u64 m, .bool k]) (by simp [results, Try.results17, go_sem]) rfl ⟨rfl, three_below w _ _ _⟩
    · have e2 : (m' == 0) = false := beq_eq_false_iff_ne.2 h2
      have hJ : joinB ⟨f, l, g, r, m, k⟩ ⟨f', l', g', r', m', k'⟩ = ⟨if f' < f then f' else f, if l' > l then l' else l, bits .or .u32 g g', bits .or .u32 r r', IntKind.u64.wrap (m + m'), k || k'⟩ := by unfold joinB; rw [if_neg h1, if_neg h2]; rfl
      rw [hJ]
      clear hJ h1 h2
      obtain ⟨X, hX⟩ : ∃ X, (if f' < f then f' else f) = X := ⟨_, rfl⟩
      obtain ⟨Y, hY⟩ : ∃ Y, (if l' > l then l' else l) = Y := ⟨_, rfl⟩
      rw [hX, hY]
      have hmin : ∀ (ts : Array TypeId) (t : TypeId) (W : World), (Builtin.min_ ts t #[.int .i64 f, .int .i64 f']).run Try.prog W = .ok (.int .i64 X) W := fun ts t W => by rw [← hX]; exact run_min_int2 W ts t .i64 .i64 f f'
      have hmax : ∀ (ts : Array TypeId) (t : TypeId) (W : World), (Builtin.max_ ts t #[.int .i64 l, .int .i64 l']).run Try.prog W = .ok (.int .i64 Y) W := fun ts t W => by rw [← hY]; exact run_max_int2 W ts t .i64 .i64 l l'
      clear hX hY
      cases k
      all_goals
        go_enter Try.func17, Try.ntmps17
        go_wp2
      · exact bodyPost_ret (v := .agg #[.int .i64 X, .int .i64 Y, .int .u32 (bits .or .u32 g g'), .int .u32 (bits .or .u32 r r'), .int .u64 (IntKind.u64.wrap (m + m')), .bool k']) (by simp [results, Try.results17, go_sem]) rfl ⟨by simp, three_below w _ _ _⟩
      · exact bodyPost_ret (v := .agg #[.int .i64 X, .int .i64 Y, .int .u32 (bits .or .u32 g g'), .int .u32 (bits .or .u32 r r'), .int .u64 (IntKind.u64.wrap (m + m')), .bool true]) (by simp [results, Try.results17, go_sem]) rfl ⟨by simp, three_below w _ _ _⟩
theorem join_R (a b x : Br) (h : joinB a b = x) (w : World) :
    Calls Try.prog 17 #[.agg #[.int .i64 a.f, .int .i64 a.l, .int .u32 a.g, .int .u32 a.r, .int .u64 a.m, .bool a.k], .agg #[.int .i64 b.f, .int .i64 b.l, .int .u32 b.g, .int .u32 b.r, .int .u64 b.m, .bool b.k]] w fun e w' =>
      e = .returned (.agg #[.int .i64 x.f, .int .i64 x.l, .int .u32 x.g, .int .u32 x.r, .int .u64 x.m, .bool x.k]) ∧ Below w.heap.size w w' := by
  rw [← h]
  exact join_at a.f a.l a.g a.r a.m a.k b.f b.l b.g b.r b.m b.k w
end Go.Proofs.Ytloknemmodmkiaa
