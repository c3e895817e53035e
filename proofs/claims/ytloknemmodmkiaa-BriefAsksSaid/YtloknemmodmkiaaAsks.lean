/-
  BriefAsks returns true for every query, every event and every brief: whether an event is asked for, and whether one of some may be, is as the document says.
  Conditions: none (every input).
-/
import Derived.Test.YtloknemmodmkiaaRefMatch
import Derived.Test.YtloknemmodmkiaaOpen
namespace Go.Proofs.Ytloknemmodmkiaa.briefAsks
open Go.ChangeShapes Go.WideShapes Go.ChangeAt Go.RowKit Go.Joins

/-- Cells of three blocks stay, whatever is made behind them. -/
theorem next20 {w0 W W' : World} {b d e : Nat} {c0 c1 c2 c3 c4 c5 c6 c7 c8 c9 c10 c11 c12 c13 c14 c15 c16 c17 c18 c19 : Value} (l0 : b < w0.heap.size) (l1 : d < w0.heap.size) (l2 : e < w0.heap.size) (h : W.cell? ⟨b, 0, none⟩ = some (c0) ∧ W.cell? ⟨b, 1, none⟩ = some (c1) ∧ W.cell? ⟨b, 2, none⟩ = some (c2) ∧ W.cell? ⟨b, 3, none⟩ = some (c3) ∧ W.cell? ⟨d, 0, none⟩ = some (c4) ∧ W.cell? ⟨d, 1, none⟩ = some (c5) ∧ W.cell? ⟨d, 2, none⟩ = some (c6) ∧ W.cell? ⟨d, 3, none⟩ = some (c7) ∧ W.cell? ⟨d, 4, none⟩ = some (c8) ∧ W.cell? ⟨d, 5, none⟩ = some (c9) ∧ W.cell? ⟨d, 6, none⟩ = some (c10) ∧ W.cell? ⟨d, 7, none⟩ = some (c11) ∧ W.cell? ⟨d, 8, none⟩ = some (c12) ∧ W.cell? ⟨d, 9, none⟩ = some (c13) ∧ W.cell? ⟨e, 0, none⟩ = some (c14) ∧ W.cell? ⟨e, 1, none⟩ = some (c15) ∧ W.cell? ⟨e, 2, none⟩ = some (c16) ∧ W.cell? ⟨e, 3, none⟩ = some (c17) ∧ W.cell? ⟨e, 4, none⟩ = some (c18) ∧ W.cell? ⟨e, 5, none⟩ = some (c19) ∧ Below w0.heap.size w0 W) (hb : Below W.heap.size W W') : W'.cell? ⟨b, 0, none⟩ = some (c0) ∧ W'.cell? ⟨b, 1, none⟩ = some (c1) ∧ W'.cell? ⟨b, 2, none⟩ = some (c2) ∧ W'.cell? ⟨b, 3, none⟩ = some (c3) ∧ W'.cell? ⟨d, 0, none⟩ = some (c4) ∧ W'.cell? ⟨d, 1, none⟩ = some (c5) ∧ W'.cell? ⟨d, 2, none⟩ = some (c6) ∧ W'.cell? ⟨d, 3, none⟩ = some (c7) ∧ W'.cell? ⟨d, 4, none⟩ = some (c8) ∧ W'.cell? ⟨d, 5, none⟩ = some (c9) ∧ W'.cell? ⟨d, 6, none⟩ = some (c10) ∧ W'.cell? ⟨d, 7, none⟩ = some (c11) ∧ W'.cell? ⟨d, 8, none⟩ = some (c12) ∧ W'.cell? ⟨d, 9, none⟩ = some (c13) ∧ W'.cell? ⟨e, 0, none⟩ = some (c14) ∧ W'.cell? ⟨e, 1, none⟩ = some (c15) ∧ W'.cell? ⟨e, 2, none⟩ = some (c16) ∧ W'.cell? ⟨e, 3, none⟩ = some (c17) ∧ W'.cell? ⟨e, 4, none⟩ = some (c18) ∧ W'.cell? ⟨e, 5, none⟩ = some (c19) ∧ Below w0.heap.size w0 W' := by
  obtain ⟨s0, s1, s2, s3, s4, s5, s6, s7, s8, s9, s10, s11, s12, s13, s14, s15, s16, s17, s18, s19, sb⟩ := h
  have hc := (bcell hb).1
  exact ⟨(hc _ _ (Nat.lt_of_lt_of_le l0 sb.size)).trans s0, (hc _ _ (Nat.lt_of_lt_of_le l0 sb.size)).trans s1, (hc _ _ (Nat.lt_of_lt_of_le l0 sb.size)).trans s2, (hc _ _ (Nat.lt_of_lt_of_le l0 sb.size)).trans s3, (hc _ _ (Nat.lt_of_lt_of_le l1 sb.size)).trans s4, (hc _ _ (Nat.lt_of_lt_of_le l1 sb.size)).trans s5, (hc _ _ (Nat.lt_of_lt_of_le l1 sb.size)).trans s6, (hc _ _ (Nat.lt_of_lt_of_le l1 sb.size)).trans s7, (hc _ _ (Nat.lt_of_lt_of_le l1 sb.size)).trans s8, (hc _ _ (Nat.lt_of_lt_of_le l1 sb.size)).trans s9, (hc _ _ (Nat.lt_of_lt_of_le l1 sb.size)).trans s10, (hc _ _ (Nat.lt_of_lt_of_le l1 sb.size)).trans s11, (hc _ _ (Nat.lt_of_lt_of_le l1 sb.size)).trans s12, (hc _ _ (Nat.lt_of_lt_of_le l1 sb.size)).trans s13, (hc _ _ (Nat.lt_of_lt_of_le l2 sb.size)).trans s14, (hc _ _ (Nat.lt_of_lt_of_le l2 sb.size)).trans s15, (hc _ _ (Nat.lt_of_lt_of_le l2 sb.size)).trans s16, (hc _ _ (Nat.lt_of_lt_of_le l2 sb.size)).trans s17, (hc _ _ (Nat.lt_of_lt_of_le l2 sb.size)).trans s18, (hc _ _ (Nat.lt_of_lt_of_le l2 sb.size)).trans s19, sb.trans (hb.mono sb.size)⟩

set_option maxHeartbeats 4000000 in
theorem walk (qf ql qg qr g f a : Int) (t : Bool) (ho ap pr id tx : ByteArray) (la : Option Addr) (n c : Nat) (bf bl bg br bm : Int) (bk : Bool) (w : World) :
    Calls Try.prog 3 #[.agg #[.int .i64 qf, .int .i64 ql, .int .u32 qg, .int .u32 qr], .agg #[.int .i64 g, .int .i64 f, .bool t, .int .i64 a, .string ho, .string ap, .string pr, .string id, .slice la n c, .string tx], .agg #[.int .i64 bf, .int .i64 bl, .int .u32 bg, .int .u32 br, .int .u64 bm, .bool bk]] w fun e w' => e = .returned (.bool true) ∧ Below w.heap.size w w' := by
  obtain ⟨R, hR⟩ : ∃ R, mayB ⟨qf, ql, qg, qr⟩ (ofB g f a false) = R := ⟨_, rfl⟩
  obtain ⟨M, hM⟩ : ∃ M, mayB ⟨qf, ql, qg, qr⟩ ⟨bf, bl, bg, br, bm, bk⟩ = M := ⟨_, rfl⟩
  have H10 := Lib.hid (fun W => match_at qf ql qg qr g f a t ho ap pr id tx la n c W)
  have H11 := Lib.hid (fun W => rmatch_at qf ql qg qr g f a t ho ap pr id tx la n c W)
  rw [hR] at H10 H11
  have H12 := Lib.hid (fun W => may_R ⟨qf, ql, qg, qr⟩ ⟨bf, bl, bg, br, bm, bk⟩ M hM W)
  have H13 := Lib.hid (fun W => rmay_R ⟨qf, ql, qg, qr⟩ ⟨bf, bl, bg, br, bm, bk⟩ M hM W)
  clear hR hM
  go_enter Try.func3, Try.ntmps3
  go_wp2_with fail
  refine (shown_any _).mono ?_
  rintro e w2 ⟨rfl, hb2⟩
  obtain ⟨hc, hf⟩ := bcell hb2
  have hz := hb2.size
  simp at hz
  have hz0 : w.heap.size < w2.heap.size := by omega
  have hz1 : w.heap.size + 1 < w2.heap.size := by omega
  have hz2 : w.heap.size + 1 + 1 < w2.heap.size := by omega
  have B2 : Below w.heap.size w w2 := (three_below w _ _ _).trans (hb2.mono (by simp; omega))
  have S0 : w2.drew.cell? ⟨w.heap.size, 0, none⟩ = some (.int .i64 qf) ∧ w2.drew.cell? ⟨w.heap.size, 1, none⟩ = some (.int .i64 ql) ∧ w2.drew.cell? ⟨w.heap.size, 2, none⟩ = some (.int .u32 qg) ∧ w2.drew.cell? ⟨w.heap.size, 3, none⟩ = some (.int .u32 qr) ∧ w2.drew.cell? ⟨w.heap.size + 1, 0, none⟩ = some (.int .i64 g) ∧ w2.drew.cell? ⟨w.heap.size + 1, 1, none⟩ = some (.int .i64 f) ∧ w2.drew.cell? ⟨w.heap.size + 1, 2, none⟩ = some (.bool t) ∧ w2.drew.cell? ⟨w.heap.size + 1, 3, none⟩ = some (.int .i64 a) ∧ w2.drew.cell? ⟨w.heap.size + 1, 4, none⟩ = some (.string ho) ∧ w2.drew.cell? ⟨w.heap.size + 1, 5, none⟩ = some (.string ap) ∧ w2.drew.cell? ⟨w.heap.size + 1, 6, none⟩ = some (.string pr) ∧ w2.drew.cell? ⟨w.heap.size + 1, 7, none⟩ = some (.string id) ∧ w2.drew.cell? ⟨w.heap.size + 1, 8, none⟩ = some (.slice la n c) ∧ w2.drew.cell? ⟨w.heap.size + 1, 9, none⟩ = some (.string tx) ∧ w2.drew.cell? ⟨w.heap.size + 1 + 1, 0, none⟩ = some (.int .i64 bf) ∧ w2.drew.cell? ⟨w.heap.size + 1 + 1, 1, none⟩ = some (.int .i64 bl) ∧ w2.drew.cell? ⟨w.heap.size + 1 + 1, 2, none⟩ = some (.int .u32 bg) ∧ w2.drew.cell? ⟨w.heap.size + 1 + 1, 3, none⟩ = some (.int .u32 br) ∧ w2.drew.cell? ⟨w.heap.size + 1 + 1, 4, none⟩ = some (.int .u64 bm) ∧ w2.drew.cell? ⟨w.heap.size + 1 + 1, 5, none⟩ = some (.bool bk) ∧ Below w2.heap.size w2 w2.drew := by
    refine ⟨?_, ?_, ?_, ?_, ?_, ?_, ?_, ?_, ?_, ?_, ?_, ?_, ?_, ?_, ?_, ?_, ?_, ?_, ?_, ?_, drew_below w2⟩ <;> simp [hc, go_sem]
  clear hb2 hc hf hz
  go_wp2
  go_region_held3 (fun w' => w'.cell? ⟨w.heap.size, 0, none⟩ = some (.int .i64 qf) ∧ w'.cell? ⟨w.heap.size, 1, none⟩ = some (.int .i64 ql) ∧ w'.cell? ⟨w.heap.size, 2, none⟩ = some (.int .u32 qg) ∧ w'.cell? ⟨w.heap.size, 3, none⟩ = some (.int .u32 qr) ∧ w'.cell? ⟨w.heap.size + 1, 0, none⟩ = some (.int .i64 g) ∧ w'.cell? ⟨w.heap.size + 1, 1, none⟩ = some (.int .i64 f) ∧ w'.cell? ⟨w.heap.size + 1, 2, none⟩ = some (.bool t) ∧ w'.cell? ⟨w.heap.size + 1, 3, none⟩ = some (.int .i64 a) ∧ w'.cell? ⟨w.heap.size + 1, 4, none⟩ = some (.string ho) ∧ w'.cell? ⟨w.heap.size + 1, 5, none⟩ = some (.string ap) ∧ w'.cell? ⟨w.heap.size + 1, 6, none⟩ = some (.string pr) ∧ w'.cell? ⟨w.heap.size + 1, 7, none⟩ = some (.string id) ∧ w'.cell? ⟨w.heap.size + 1, 8, none⟩ = some (.slice la n c) ∧ w'.cell? ⟨w.heap.size + 1, 9, none⟩ = some (.string tx) ∧ w'.cell? ⟨w.heap.size + 1 + 1, 0, none⟩ = some (.int .i64 bf) ∧ w'.cell? ⟨w.heap.size + 1 + 1, 1, none⟩ = some (.int .i64 bl) ∧ w'.cell? ⟨w.heap.size + 1 + 1, 2, none⟩ = some (.int .u32 bg) ∧ w'.cell? ⟨w.heap.size + 1 + 1, 3, none⟩ = some (.int .u32 br) ∧ w'.cell? ⟨w.heap.size + 1 + 1, 4, none⟩ = some (.int .u64 bm) ∧ w'.cell? ⟨w.heap.size + 1 + 1, 5, none⟩ = some (.bool bk) ∧ Below w2.heap.size w2 w')
    (first
      | assumption
      | exact next20 hz0 hz1 hz2 S0 (by assumption)
      | exact next20 hz0 hz1 hz2 (by assumption) (by assumption)
      | exact S0)
    (first
      | (go_at_call 10; (with_reducible refine (H10.out _).mono ?_); rintro e w' ⟨rfl, hb⟩)
      | (go_at_call 11; (with_reducible refine (H11.out _).mono ?_); rintro e w' ⟨rfl, hb⟩)
      | (go_at_call 12; (with_reducible refine (H12.out _).mono ?_); rintro e w' ⟨rfl, hb⟩)
      | (go_at_call 13; (with_reducible refine (H13.out _).mono ?_); rintro e w' ⟨rfl, hb⟩))
  rename_i hS
  have B6 := B2.trans (hS.2.2.2.2.2.2.2.2.2.2.2.2.2.2.2.2.2.2.2.2.mono B2.size)
  clear hS S0 B2
  go_wp2
  go_ret
  exact ⟨rfl, B6⟩

set_option maxRecDepth 100000 in
theorem lifted (os : Os) (started : os.Started) (H : Type) (enc : TypeId × Value → H) :
    ReturnsInHanded {} Try.checked os 3 .any (Rows.briefAsksSpec.pre6 enc Try.prog Try.f3 Rows.briefAsksRow.domain false) (Rows.briefAsksSpec.post enc Try.prog Try.f3 false true false false) := by
  refine returnsInHanded_of_change (C := Try.checked) own started (by kernel_rfl) Try.func3
    (ChangeSpec.witness6 (enc := enc) (C := Try.checked) false ⟨#[], #[.agg #[.int .i64 0, .int .i64 0, .int .u32 0, .int .u32 0], .agg #[.int .i64 0, .int .i64 0, .bool false, .int .i64 0, .string ByteArray.empty, .string ByteArray.empty, .string ByteArray.empty, .string ByteArray.empty, .slice none 0 0, .string ByteArray.empty], .agg #[.int .i64 0, .int .i64 0, .int .u32 0, .int .u32 0, .int .u64 0, .bool false]], []⟩ 8 (by kernel_rfl) (by kernel_rfl) (by kernel_rfl) (by kernel_rfl)) ?_
  intro W base args ds gs before hval0 hW hcnd _
  have hval : ∀ (j : Nat) t v, Try.f3.params[j]? = some t → args[j]? = some v → Value.okWide Try.prog W .any base t v := hval0
  have hW' := hW
  obtain ⟨p, q, hA0, hV, rfl, hfz, hnd⟩ := hW
  have hA : DataW.TrodAll enc Try.prog W 0 (fun _ => true) true Try.f3.params.toList args.toList ds p := hA0
  rw [Try.params3] at hA hval
  obtain ⟨v0, vs0, d0, ds0, p0, q0, hargs, rfl, rfl, h0, r0⟩ := trodAll_cons hA
  obtain ⟨v1, vs1, d1, ds1, p1, q1, rfl, rfl, rfl, h1, r1⟩ := trodAll_cons r0
  obtain ⟨v2, vs2, d2, ds2, p2, q2, rfl, rfl, rfl, h2, r2⟩ := trodAll_cons r1
  obtain ⟨rfl, rfl, rfl⟩ := trodAll_nil r2
  obtain rfl : args = #[v0, v1, v2] := by cases args; simp_all
  obtain ⟨rfl, rfl⟩ := trodVars_none hV
  have lt0 : ∀ x ∈ p0, x.block < W.heap.size := by obtain ⟨m, hm⟩ := h0; exact DataW.trod_lt m _ _ _ hm
  have lt1 : ∀ x ∈ p1, x.block < W.heap.size := by obtain ⟨m, hm⟩ := h1; exact DataW.trod_lt m _ _ _ hm
  have lt2 : ∀ x ∈ p2, x.block < W.heap.size := by obtain ⟨m, hm⟩ := h2; exact DataW.trod_lt m _ _ _ hm
  obtain ⟨qu, rfl, _⟩ := open_query (hval 0 24 v0 rfl rfl) h0
  obtain ⟨ev, rfl⟩ := open_event (hval 1 27 v1 rfl rfl) h1
  obtain ⟨b, rfl, _⟩ := open_brief (hval 2 30 v2 rfl rfl) h2
  clear hA0 hval0
  refine (walk qu.f qu.l qu.g qu.r ev.g ev.f ev.a ev.t ev.ho ev.ap ev.pr ev.id ev.tx ev.la ev.ln ev.lc b.f b.l b.g b.r b.m b.k W).mono fun e W' ⟨he, bel⟩ => ?_
  subst he
  exact ⟨_, rfl, _, _, _, [], _, [], hW', trodAll_mk1 (shut_bool Try.underlying4 _), (trodAll_cons_mk (Below.trod laidOut (by kernel_rfl) (of_decide_eq_true (by kernel_rfl)) h0 bel lt0) (trodAll_cons_mk (Below.trod laidOut (by kernel_rfl) (of_decide_eq_true (by kernel_rfl)) h1 bel lt1) (trodAll_cons_mk (Below.trod laidOut (by kernel_rfl) (of_decide_eq_true (by kernel_rfl)) h2 bel lt2) trodAll_mk0))), rfl, bel.frame _, fun h => by cases h⟩

theorem over : Rows.briefAsksRow.holds Try.pinned (OpenSpec.ofChange Rows.briefAsksSpec) :=
  OpenClaim.holds_of_wide 3 Try.f3 rfl rfl rfl rfl rfl rfl rfl ⟨rfl, rfl, rfl, rfl, rfl⟩ rfl rfl rfl rfl rfl (by kernel_rfl) Try.func3 (by kernel_rfl)
    (of_decide_eq_true (by kernel_rfl)) (by unfold Func.isWrapper; first | (rw [if_pos (by decide +kernel)]; kernel_rfl) | (rw [if_neg (by decide +kernel)]; exact ⟨rfl, rfl⟩))
    (fun os started H enc _ => lifted os started H enc)

theorem proved : Rows.BriefAsksSaid := over
#print axioms proved
end Go.Proofs.Ytloknemmodmkiaa.briefAsks
