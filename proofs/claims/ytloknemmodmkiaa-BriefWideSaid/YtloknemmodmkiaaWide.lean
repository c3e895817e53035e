/-
  BriefWide returns true for every two queries, every event and every brief: a query that asks for more matches all that the lesser one does.
  Conditions: none (every input).
-/
import Derived.Test.YtloknemmodmkiaaRefMatch
import Derived.Test.YtloknemmodmkiaaOpen
namespace Go.Proofs.Ytloknemmodmkiaa.briefWide
open Go.ChangeShapes Go.WideShapes Go.ChangeAt Go.RowKit Go.Joins

/-- Cells of five blocks stay, whatever is made behind them. -/
theorem next28 {w0 W W' : World} {x y z u v : Nat} {c0 c1 c2 c3 c4 c5 c6 c7 c8 c9 c10 c11 c12 c13 c14 c15 c16 c17 c18 c19 c20 c21 c22 c23 c24 c25 c26 c27 : Value} (l0 : x < w0.heap.size) (l1 : y < w0.heap.size) (l2 : z < w0.heap.size) (l3 : u < w0.heap.size) (l4 : v < w0.heap.size) (h : W.cell? ⟨x, 0, none⟩ = some (c0) ∧ W.cell? ⟨x, 1, none⟩ = some (c1) ∧ W.cell? ⟨x, 2, none⟩ = some (c2) ∧ W.cell? ⟨x, 3, none⟩ = some (c3) ∧ W.cell? ⟨y, 0, none⟩ = some (c4) ∧ W.cell? ⟨y, 1, none⟩ = some (c5) ∧ W.cell? ⟨y, 2, none⟩ = some (c6) ∧ W.cell? ⟨y, 3, none⟩ = some (c7) ∧ W.cell? ⟨z, 0, none⟩ = some (c8) ∧ W.cell? ⟨z, 1, none⟩ = some (c9) ∧ W.cell? ⟨z, 2, none⟩ = some (c10) ∧ W.cell? ⟨z, 3, none⟩ = some (c11) ∧ W.cell? ⟨z, 4, none⟩ = some (c12) ∧ W.cell? ⟨z, 5, none⟩ = some (c13) ∧ W.cell? ⟨z, 6, none⟩ = some (c14) ∧ W.cell? ⟨z, 7, none⟩ = some (c15) ∧ W.cell? ⟨z, 8, none⟩ = some (c16) ∧ W.cell? ⟨z, 9, none⟩ = some (c17) ∧ W.cell? ⟨u, 0, none⟩ = some (c18) ∧ W.cell? ⟨u, 1, none⟩ = some (c19) ∧ W.cell? ⟨u, 2, none⟩ = some (c20) ∧ W.cell? ⟨u, 3, none⟩ = some (c21) ∧ W.cell? ⟨u, 4, none⟩ = some (c22) ∧ W.cell? ⟨u, 5, none⟩ = some (c23) ∧ W.cell? ⟨v, 0, none⟩ = some (c24) ∧ W.cell? ⟨v, 1, none⟩ = some (c25) ∧ W.cell? ⟨v, 2, none⟩ = some (c26) ∧ W.cell? ⟨v, 3, none⟩ = some (c27) ∧ Below w0.heap.size w0 W) (hb : Below W.heap.size W W') : W'.cell? ⟨x, 0, none⟩ = some (c0) ∧ W'.cell? ⟨x, 1, none⟩ = some (c1) ∧ W'.cell? ⟨x, 2, none⟩ = some (c2) ∧ W'.cell? ⟨x, 3, none⟩ = some (c3) ∧ W'.cell? ⟨y, 0, none⟩ = some (c4) ∧ W'.cell? ⟨y, 1, none⟩ = some (c5) ∧ W'.cell? ⟨y, 2, none⟩ = some (c6) ∧ W'.cell? ⟨y, 3, none⟩ = some (c7) ∧ W'.cell? ⟨z, 0, none⟩ = some (c8) ∧ W'.cell? ⟨z, 1, none⟩ = some (c9) ∧ W'.cell? ⟨z, 2, none⟩ = some (c10) ∧ W'.cell? ⟨z, 3, none⟩ = some (c11) ∧ W'.cell? ⟨z, 4, none⟩ = some (c12) ∧ W'.cell? ⟨z, 5, none⟩ = some (c13) ∧ W'.cell? ⟨z, 6, none⟩ = some (c14) ∧ W'.cell? ⟨z, 7, none⟩ = some (c15) ∧ W'.cell? ⟨z, 8, none⟩ = some (c16) ∧ W'.cell? ⟨z, 9, none⟩ = some (c17) ∧ W'.cell? ⟨u, 0, none⟩ = some (c18) ∧ W'.cell? ⟨u, 1, none⟩ = some (c19) ∧ W'.cell? ⟨u, 2, none⟩ = some (c20) ∧ W'.cell? ⟨u, 3, none⟩ = some (c21) ∧ W'.cell? ⟨u, 4, none⟩ = some (c22) ∧ W'.cell? ⟨u, 5, none⟩ = some (c23) ∧ W'.cell? ⟨v, 0, none⟩ = some (c24) ∧ W'.cell? ⟨v, 1, none⟩ = some (c25) ∧ W'.cell? ⟨v, 2, none⟩ = some (c26) ∧ W'.cell? ⟨v, 3, none⟩ = some (c27) ∧ Below w0.heap.size w0 W' := by
  obtain ⟨s0, s1, s2, s3, s4, s5, s6, s7, s8, s9, s10, s11, s12, s13, s14, s15, s16, s17, s18, s19, s20, s21, s22, s23, s24, s25, s26, s27, sb⟩ := h
  have hc := (bcell hb).1
  exact ⟨(hc _ _ (Nat.lt_of_lt_of_le l0 sb.size)).trans s0, (hc _ _ (Nat.lt_of_lt_of_le l0 sb.size)).trans s1, (hc _ _ (Nat.lt_of_lt_of_le l0 sb.size)).trans s2, (hc _ _ (Nat.lt_of_lt_of_le l0 sb.size)).trans s3, (hc _ _ (Nat.lt_of_lt_of_le l1 sb.size)).trans s4, (hc _ _ (Nat.lt_of_lt_of_le l1 sb.size)).trans s5, (hc _ _ (Nat.lt_of_lt_of_le l1 sb.size)).trans s6, (hc _ _ (Nat.lt_of_lt_of_le l1 sb.size)).trans s7, (hc _ _ (Nat.lt_of_lt_of_le l2 sb.size)).trans s8, (hc _ _ (Nat.lt_of_lt_of_le l2 sb.size)).trans s9, (hc _ _ (Nat.lt_of_lt_of_le l2 sb.size)).trans s10, (hc _ _ (Nat.lt_of_lt_of_le l2 sb.size)).trans s11, (hc _ _ (Nat.lt_of_lt_of_le l2 sb.size)).trans s12, (hc _ _ (Nat.lt_of_lt_of_le l2 sb.size)).trans s13, (hc _ _ (Nat.lt_of_lt_of_le l2 sb.size)).trans s14, (hc _ _ (Nat.lt_of_lt_of_le l2 sb.size)).trans s15, (hc _ _ (Nat.lt_of_lt_of_le l2 sb.size)).trans s16, (hc _ _ (Nat.lt_of_lt_of_le l2 sb.size)).trans s17, (hc _ _ (Nat.lt_of_lt_of_le l3 sb.size)).trans s18, (hc _ _ (Nat.lt_of_lt_of_le l3 sb.size)).trans s19, (hc _ _ (Nat.lt_of_lt_of_le l3 sb.size)).trans s20, (hc _ _ (Nat.lt_of_lt_of_le l3 sb.size)).trans s21, (hc _ _ (Nat.lt_of_lt_of_le l3 sb.size)).trans s22, (hc _ _ (Nat.lt_of_lt_of_le l3 sb.size)).trans s23, (hc _ _ (Nat.lt_of_lt_of_le l4 sb.size)).trans s24, (hc _ _ (Nat.lt_of_lt_of_le l4 sb.size)).trans s25, (hc _ _ (Nat.lt_of_lt_of_le l4 sb.size)).trans s26, (hc _ _ (Nat.lt_of_lt_of_le l4 sb.size)).trans s27, sb.trans (hb.mono sb.size)⟩

theorem match_R (q : Qu) (g f a : Int) (t : Bool) (ho ap pr id tx : ByteArray) (la : Option Addr) (n c : Nat) (R : Bool) (h : mayB q (ofB g f a false) = R) (w : World) :
    Calls Try.prog 10 #[.agg #[.int .i64 q.f, .int .i64 q.l, .int .u32 q.g, .int .u32 q.r], .agg #[.int .i64 g, .int .i64 f, .bool t, .int .i64 a, .string ho, .string ap, .string pr, .string id, .slice la n c, .string tx]] w fun e w' => e = .returned (.bool R) ∧ Below w.heap.size w w' := by
  rw [← h]
  exact match_at q.f q.l q.g q.r g f a t ho ap pr id tx la n c w

set_option maxHeartbeats 4000000 in
theorem walk (q k : Qu) (g f a : Int) (t : Bool) (ho ap pr id tx : ByteArray) (la : Option Addr) (n c : Nat) (b : Br) (w : World) (hq : QFits q) (hk : QFits k) (hb : Fits b) :
    Calls Try.prog 8 #[.agg #[.int .i64 q.f, .int .i64 q.l, .int .u32 q.g, .int .u32 q.r, .int .i64 k.f, .int .i64 k.l, .int .u32 k.g, .int .u32 k.r, .int .i64 g, .int .i64 f, .bool t, .int .i64 a, .string ho, .string ap, .string pr, .string id, .slice la n c, .string tx, .int .i64 b.f, .int .i64 b.l, .int .u32 b.g, .int .u32 b.r, .int .u64 b.m, .bool b.k]] w fun e w' => e = .returned (.bool true) ∧ Below w.heap.size w w' := by
  obtain ⟨A1, hA1⟩ : ∃ R, mayB q (ofB g f a false) = R := ⟨_, rfl⟩
  obtain ⟨B1, hB1⟩ : ∃ R, mayB q b = R := ⟨_, rfl⟩
  obtain ⟨C1, hC1⟩ : ∃ R, mayB k b = R := ⟨_, rfl⟩
  have hA2 : A1 = true → mayB (wideQ q k) (ofB g f a false) = true := fun h => may_wide hq hk (of_fits ..) (hA1.trans h)
  have hB2 : B1 = true → mayB (wideQ q k) b = true := fun h => may_wide hq hk hb (hB1.trans h)
  have hC2 : C1 = true → mayB (wideQ q k) b = true := fun h => may_wide' hq hk hb (hC1.trans h)
  have HA := Lib.hid (fun W => match_R q g f a t ho ap pr id tx la n c A1 hA1 W)
  have HB := Lib.hid (fun W => may_R q b B1 hB1 W)
  have HC := Lib.hid (fun W => may_R k b C1 hC1 W)
  have HA' := Lib.hid (fun (h : A1 = true) W => match_R (wideQ q k) g f a t ho ap pr id tx la n c true (hA2 h) W)
  have HB' := Lib.hid (fun (h : B1 = true) W => may_R (wideQ q k) b true (hB2 h) W)
  have HC' := Lib.hid (fun (h : C1 = true) W => may_R (wideQ q k) b true (hC2 h) W)
  have hx : (k.f < q.f ∧ Hid ((wideQ q k).f = k.f)) ∨ (¬ k.f < q.f ∧ Hid ((wideQ q k).f = q.f)) := by
    by_cases h : k.f < q.f
    · exact .inl ⟨h, Lib.hid (if_pos h)⟩
    · exact .inr ⟨h, Lib.hid (if_neg h)⟩
  have hy : (k.l > q.l ∧ Hid ((wideQ q k).l = k.l)) ∨ (¬ k.l > q.l ∧ Hid ((wideQ q k).l = q.l)) := by
    by_cases h : k.l > q.l
    · exact .inl ⟨h, Lib.hid (if_pos h)⟩
    · exact .inr ⟨h, Lib.hid (if_neg h)⟩
  have HG := Lib.hid (show (wideQ q k).g = bits .or .u32 q.g k.g from rfl)
  have HR := Lib.hid (show (wideQ q k).r = bits .or .u32 q.r k.r from rfl)
  clear hA1 hB1 hC1 hA2 hB2 hC2 hq hk hb
  rcases hx with ⟨x1, HX⟩ | ⟨x1, HX⟩
  all_goals
    rcases hy with ⟨y1, HY⟩ | ⟨y1, HY⟩
    all_goals
      go_enter Try.func8, Try.ntmps8
      go_wp2_with fail
      refine (shown_any _).mono ?_
      rintro e w2 ⟨rfl, hb2⟩
      obtain ⟨hc, hf⟩ := bcell hb2
      have hz := hb2.size
      simp at hz
      have hz0 : w.heap.size + 1 < w2.heap.size := by omega
      have hz1 : w.heap.size + 1 + 1 < w2.heap.size := by omega
      have hz2 : w.heap.size + 1 + 1 + 1 < w2.heap.size := by omega
      have hz3 : w.heap.size + 1 + 1 + 1 + 1 < w2.heap.size := by omega
      go_wp2_with fail
      refine (HA.out _).mono ?_
      rintro e w3 ⟨rfl, hb3⟩
      have hs3 := hb3.size
      simp at hs3
      have hB23 : Below w2.heap.size w2 w3 := (alloc_below w2 _).trans (hb3.mono (by simp))
      have hc3 := (bcell hB23).1
      have S3 : w3.cell? ⟨w.heap.size + 1, 0, none⟩ = some (.int .i64 q.f) ∧ w3.cell? ⟨w.heap.size + 1, 1, none⟩ = some (.int .i64 q.l) ∧ w3.cell? ⟨w.heap.size + 1, 2, none⟩ = some (.int .u32 q.g) ∧ w3.cell? ⟨w.heap.size + 1, 3, none⟩ = some (.int .u32 q.r) ∧ w3.cell? ⟨w.heap.size + 1 + 1, 0, none⟩ = some (.int .i64 k.f) ∧ w3.cell? ⟨w.heap.size + 1 + 1, 1, none⟩ = some (.int .i64 k.l) ∧ w3.cell? ⟨w.heap.size + 1 + 1, 2, none⟩ = some (.int .u32 k.g) ∧ w3.cell? ⟨w.heap.size + 1 + 1, 3, none⟩ = some (.int .u32 k.r) ∧ w3.cell? ⟨w.heap.size + 1 + 1 + 1, 0, none⟩ = some (.int .i64 g) ∧ w3.cell? ⟨w.heap.size + 1 + 1 + 1, 1, none⟩ = some (.int .i64 f) ∧ w3.cell? ⟨w.heap.size + 1 + 1 + 1, 2, none⟩ = some (.bool t) ∧ w3.cell? ⟨w.heap.size + 1 + 1 + 1, 3, none⟩ = some (.int .i64 a) ∧ w3.cell? ⟨w.heap.size + 1 + 1 + 1, 4, none⟩ = some (.string ho) ∧ w3.cell? ⟨w.heap.size + 1 + 1 + 1, 5, none⟩ = some (.string ap) ∧ w3.cell? ⟨w.heap.size + 1 + 1 + 1, 6, none⟩ = some (.string pr) ∧ w3.cell? ⟨w.heap.size + 1 + 1 + 1, 7, none⟩ = some (.string id) ∧ w3.cell? ⟨w.heap.size + 1 + 1 + 1, 8, none⟩ = some (.slice la n c) ∧ w3.cell? ⟨w.heap.size + 1 + 1 + 1, 9, none⟩ = some (.string tx) ∧ w3.cell? ⟨w.heap.size + 1 + 1 + 1 + 1, 0, none⟩ = some (.int .i64 b.f) ∧ w3.cell? ⟨w.heap.size + 1 + 1 + 1 + 1, 1, none⟩ = some (.int .i64 b.l) ∧ w3.cell? ⟨w.heap.size + 1 + 1 + 1 + 1, 2, none⟩ = some (.int .u32 b.g) ∧ w3.cell? ⟨w.heap.size + 1 + 1 + 1 + 1, 3, none⟩ = some (.int .u32 b.r) ∧ w3.cell? ⟨w.heap.size + 1 + 1 + 1 + 1, 4, none⟩ = some (.int .u64 b.m) ∧ w3.cell? ⟨w.heap.size + 1 + 1 + 1 + 1, 5, none⟩ = some (.bool b.k) ∧ w3.cell? ⟨w2.heap.size, 0, none⟩ = some (.int .i64 (wideQ q k).f) ∧ w3.cell? ⟨w2.heap.size, 1, none⟩ = some (.int .i64 (wideQ q k).l) ∧ w3.cell? ⟨w2.heap.size, 2, none⟩ = some (.int .u32 (wideQ q k).g) ∧ w3.cell? ⟨w2.heap.size, 3, none⟩ = some (.int .u32 (wideQ q k).r) ∧ Below w3.heap.size w3 w3 := by
        refine ⟨?_, ?_, ?_, ?_, ?_, ?_, ?_, ?_, ?_, ?_, ?_, ?_, ?_, ?_, ?_, ?_, ?_, ?_, ?_, ?_, ?_, ?_, ?_, ?_, ?_, ?_, ?_, ?_, Below.refl _ _⟩ <;> simp [hc3, hc, hz0, hz1, hz2, hz3, (bcell hb3).1, go_sem, HX.out, HY.out, HG.out, HR.out]
      have B3 : Below w.heap.size w w3 := (((((alloc_below w _).alloc (by simp) _).alloc (by simp; omega) _).alloc (by simp; omega) _).alloc (by simp; omega) _).trans ((hb2.mono (by simp; omega)).trans (((alloc_below w2 _).mono (by omega)).trans (hb3.mono (by simp; omega))))
      have T3 : w2.heap.size < w3.heap.size := hs3
      have T0 := Nat.lt_trans hz0 T3
      have T1 := Nat.lt_trans hz1 T3
      have T2 := Nat.lt_trans hz2 T3
      have T4 := Nat.lt_trans hz3 T3
      clear hb2 hb3 hB23 hc3 hc hf hz hs3 HX HY HG HR x1 y1 hz0 hz1 hz2 hz3
      cases A1
      all_goals
        go_wp2_with fail
        first
          | (with_reducible refine (HB.out _).mono ?_)
          | ((with_reducible refine (HA'.out (by simp) _).mono ?_); rintro e w4 ⟨rfl, hb4⟩; replace S3 := next28 T0 T1 T2 T4 T3 S3 hb4; clear hb4; go_wp2_with fail; (with_reducible refine (HB.out _).mono ?_))
        rintro e w5 ⟨rfl, hb5⟩
        replace S3 := next28 T0 T1 T2 T4 T3 S3 hb5
        clear hb5
        cases B1
        all_goals
          go_wp2_with fail
          first
            | (with_reducible refine (HC.out _).mono ?_)
            | ((with_reducible refine (HB'.out (by simp) _).mono ?_); rintro e w6 ⟨rfl, hb6⟩; replace S3 := next28 T0 T1 T2 T4 T3 S3 hb6; clear hb6; go_wp2_with fail; (with_reducible refine (HC.out _).mono ?_))
          rintro e w7 ⟨rfl, hb7⟩
          replace S3 := next28 T0 T1 T2 T4 T3 S3 hb7
          clear hb7
          cases C1
          case false =>
            have BB := B3.trans (S3.2.2.2.2.2.2.2.2.2.2.2.2.2.2.2.2.2.2.2.2.2.2.2.2.2.2.2.2.mono B3.size)
            go_wp2
            go_ret
            exact ⟨rfl, BB⟩
          case true =>
            go_wp2_with fail
            refine (HC'.out (by simp) _).mono ?_
            rintro e w8 ⟨rfl, hb8⟩
            replace S3 := next28 T0 T1 T2 T4 T3 S3 hb8
            clear hb8
            have BB := B3.trans (S3.2.2.2.2.2.2.2.2.2.2.2.2.2.2.2.2.2.2.2.2.2.2.2.2.2.2.2.2.mono B3.size)
            go_wp2
            go_ret
            exact ⟨rfl, BB⟩

/-! ### the argument: two queries, an event, a brief -/
theorem twentyfour (cs : List Value) (h : cs.length = 24) : cs = (cs.drop 0).take 4 ++ ((cs.drop 4).take 4 ++ ((cs.drop 8).take 10 ++ (cs.drop 18).take 6)) := by
  match cs, h with
  | [c0, c1, c2, c3, c4, c5, c6, c7, c8, c9, c10, c11, c12, c13, c14, c15, c16, c17, c18, c19, c20, c21, c22, c23], _ => rfl
set_option maxRecDepth 100000 in
theorem open_wide {H : Type} {enc : TypeId × Value → H} {W : World} {r : Reach} {b0 : Nat} {v : Value} {d : DataW H} {p : List MemPlace} (hv : Value.okWide Try.prog W r b0 51 v) (h : DataW.Trod enc Try.prog W 0 (fun _ => true) true 51 v d p) :
    ∃ (q k : Qu) (e : Ev) (b : Br), v = .agg #[.int .i64 q.f, .int .i64 q.l, .int .u32 q.g, .int .u32 q.r, .int .i64 k.f, .int .i64 k.l, .int .u32 k.g, .int .u32 k.r, .int .i64 e.g, .int .i64 e.f, .bool e.t, .int .i64 e.a, .string e.ho, .string e.ap, .string e.pr, .string e.id, .slice e.la e.ln e.lc, .string e.tx, .int .i64 b.f, .int .i64 b.l, .int .u32 b.g, .int .u32 b.r, .int .u64 b.m, .bool b.k] ∧ QFits q ∧ QFits k ∧ Fits b := by
  obtain ⟨cs, rfl, hsz⟩ := okWide_struct Try.underlying51 hv
  obtain ⟨fuel, hf⟩ := h
  obtain ⟨xs, n, _, hx, hl, hlen, hg⟩ := DataW.trod_struct Try.underlying51 hf
  rw [cells51] at hl
  match xs, hlen with
  | [y0, y1, y2, y3], _ =>
    have g0 : DataW.trod enc Try.prog W 0 (fun _ => true) true n 24 (((Value.agg cs).cells.toList.drop 0).take (Try.prog.cellsOf 24)) = some y0 := hg 0 _ rfl
    have g1 : DataW.trod enc Try.prog W 0 (fun _ => true) true n 24 (((Value.agg cs).cells.toList.drop 4).take (Try.prog.cellsOf 24)) = some y1 := hg 1 _ rfl
    have g2 : DataW.trod enc Try.prog W 0 (fun _ => true) true n 27 (((Value.agg cs).cells.toList.drop 8).take (Try.prog.cellsOf 27)) = some y2 := hg 2 _ rfl
    have g3 : DataW.trod enc Try.prog W 0 (fun _ => true) true n 30 (((Value.agg cs).cells.toList.drop 18).take (Try.prog.cellsOf 30)) = some y3 := hg 3 _ rfl
    rw [cells24] at g0 g1
    rw [cells27] at g2
    rw [cells30] at g3
    obtain ⟨q, e0, f0⟩ := query_cells g0
    obtain ⟨k, e1, f1⟩ := query_cells g1
    obtain ⟨e, e2⟩ := event_cells g2
    obtain ⟨b, e3, f3⟩ := brief_cells g3
    refine ⟨q, k, e, b, ?_, f0, f1, f3⟩
    have hcs := twentyfour _ hl
    rw [e0, e1, e2, e3] at hcs
    simp only [Value.cells, List.cons_append, List.nil_append] at hcs
    rw [← Array.toArray_toList (xs := cs), hcs]

set_option maxRecDepth 100000 in
theorem lifted (os : Os) (started : os.Started) (H : Type) (enc : TypeId × Value → H) :
    ReturnsInHanded {} Try.checked os 8 .any (Rows.briefWideSpec.pre6 enc Try.prog Try.f8 Rows.briefWideRow.domain false) (Rows.briefWideSpec.post enc Try.prog Try.f8 false true false false) := by
  refine returnsInHanded_of_change (C := Try.checked) own started (by kernel_rfl) Try.func8
    (ChangeSpec.witness6 (enc := enc) (C := Try.checked) false ⟨#[], #[.agg #[.int .i64 0, .int .i64 0, .int .u32 0, .int .u32 0, .int .i64 0, .int .i64 0, .int .u32 0, .int .u32 0, .int .i64 0, .int .i64 0, .bool false, .int .i64 0, .string ByteArray.empty, .string ByteArray.empty, .string ByteArray.empty, .string ByteArray.empty, .slice none 0 0, .string ByteArray.empty, .int .i64 0, .int .i64 0, .int .u32 0, .int .u32 0, .int .u64 0, .bool false]], []⟩ 8 (by kernel_rfl) (by kernel_rfl) (by kernel_rfl) (by kernel_rfl)) ?_
  intro W base args ds gs before hval0 hW hcnd _
  have hval : ∀ (j : Nat) t v, Try.f8.params[j]? = some t → args[j]? = some v → Value.okWide Try.prog W .any base t v := hval0
  have hW' := hW
  obtain ⟨p, q, hA0, hV, rfl, hfz, hnd⟩ := hW
  have hA : DataW.TrodAll enc Try.prog W 0 (fun _ => true) true Try.f8.params.toList args.toList ds p := hA0
  rw [Try.params8] at hA hval
  obtain ⟨v0, d0, rfl, rfl, h0⟩ := trodAll_one hA
  obtain ⟨rfl, rfl⟩ := trodVars_none hV
  have lt0 : ∀ x ∈ p, x.block < W.heap.size := by obtain ⟨m, hm⟩ := h0; exact DataW.trod_lt m _ _ _ hm
  obtain ⟨qu, ku, ev, b, rfl, f0, f1, f3⟩ := open_wide (hval 0 51 v0 rfl rfl) h0
  clear hA0 hval0
  refine (walk qu ku ev.g ev.f ev.a ev.t ev.ho ev.ap ev.pr ev.id ev.tx ev.la ev.ln ev.lc b W f0 f1 f3).mono fun e W' ⟨he, bel⟩ => ?_
  subst he
  exact ⟨_, rfl, _, _, _, [], _, [], hW', trodAll_mk1 (shut_bool Try.underlying4 _), (trodAll_mk1 (Below.trod laidOut (by kernel_rfl) (of_decide_eq_true (by kernel_rfl)) h0 bel lt0)), rfl, bel.frame _, fun h => by cases h⟩

theorem over : Rows.briefWideRow.holds Try.pinned (OpenSpec.ofChange Rows.briefWideSpec) :=
  OpenClaim.holds_of_wide 8 Try.f8 rfl rfl rfl rfl rfl rfl rfl ⟨rfl, rfl, rfl, rfl, rfl⟩ rfl rfl rfl rfl rfl (by kernel_rfl) Try.func8 (by kernel_rfl)
    (of_decide_eq_true (by kernel_rfl)) (by unfold Func.isWrapper; first | (rw [if_pos (by decide +kernel)]; kernel_rfl) | (rw [if_neg (by decide +kernel)]; exact ⟨rfl, rfl⟩))
    (fun os started H enc _ => lifted os started H enc)

theorem proved : Rows.BriefWideSaid := over
#print axioms proved
end Go.Proofs.Ytloknemmodmkiaa.briefWide
