/- Is an event asked for: the program's answer. No conditions. -/
import Derived.Test.YtloknemmodmkiaaAsked
namespace Go.Proofs.Ytloknemmodmkiaa
open Go.ChangeShapes Go.WideShapes Go.ChangeAt Go.RowKit

/-- Cells of two blocks stay, whatever is made behind them. -/
theorem next14 {w0 W W' : World} {b d : Nat} {c0 c1 c2 c3 c4 c5 c6 c7 c8 c9 c10 c11 c12 c13 : Value} (l0 : b < w0.heap.size) (l1 : d < w0.heap.size) (h : W.cell? ⟨b, 0, none⟩ = some (c0) ∧ W.cell? ⟨b, 1, none⟩ = some (c1) ∧ W.cell? ⟨b, 2, none⟩ = some (c2) ∧ W.cell? ⟨b, 3, none⟩ = some (c3) ∧ W.cell? ⟨d, 0, none⟩ = some (c4) ∧ W.cell? ⟨d, 1, none⟩ = some (c5) ∧ W.cell? ⟨d, 2, none⟩ = some (c6) ∧ W.cell? ⟨d, 3, none⟩ = some (c7) ∧ W.cell? ⟨d, 4, none⟩ = some (c8) ∧ W.cell? ⟨d, 5, none⟩ = some (c9) ∧ W.cell? ⟨d, 6, none⟩ = some (c10) ∧ W.cell? ⟨d, 7, none⟩ = some (c11) ∧ W.cell? ⟨d, 8, none⟩ = some (c12) ∧ W.cell? ⟨d, 9, none⟩ = some (c13) ∧ Below w0.heap.size w0 W) (hb : Below W.heap.size W W') : W'.cell? ⟨b, 0, none⟩ = some (c0) ∧ W'.cell? ⟨b, 1, none⟩ = some (c1) ∧ W'.cell? ⟨b, 2, none⟩ = some (c2) ∧ W'.cell? ⟨b, 3, none⟩ = some (c3) ∧ W'.cell? ⟨d, 0, none⟩ = some (c4) ∧ W'.cell? ⟨d, 1, none⟩ = some (c5) ∧ W'.cell? ⟨d, 2, none⟩ = some (c6) ∧ W'.cell? ⟨d, 3, none⟩ = some (c7) ∧ W'.cell? ⟨d, 4, none⟩ = some (c8) ∧ W'.cell? ⟨d, 5, none⟩ = some (c9) ∧ W'.cell? ⟨d, 6, none⟩ = some (c10) ∧ W'.cell? ⟨d, 7, none⟩ = some (c11) ∧ W'.cell? ⟨d, 8, none⟩ = some (c12) ∧ W'.cell? ⟨d, 9, none⟩ = some (c13) ∧ Below w0.heap.size w0 W' := by
  obtain ⟨s0, s1, s2, s3, s4, s5, s6, s7, s8, s9, s10, s11, s12, s13, sb⟩ := h
  have hc := (bcell hb).1
  exact ⟨(hc _ _ (Nat.lt_of_lt_of_le l0 sb.size)).trans s0, (hc _ _ (Nat.lt_of_lt_of_le l0 sb.size)).trans s1, (hc _ _ (Nat.lt_of_lt_of_le l0 sb.size)).trans s2, (hc _ _ (Nat.lt_of_lt_of_le l0 sb.size)).trans s3, (hc _ _ (Nat.lt_of_lt_of_le l1 sb.size)).trans s4, (hc _ _ (Nat.lt_of_lt_of_le l1 sb.size)).trans s5, (hc _ _ (Nat.lt_of_lt_of_le l1 sb.size)).trans s6, (hc _ _ (Nat.lt_of_lt_of_le l1 sb.size)).trans s7, (hc _ _ (Nat.lt_of_lt_of_le l1 sb.size)).trans s8, (hc _ _ (Nat.lt_of_lt_of_le l1 sb.size)).trans s9, (hc _ _ (Nat.lt_of_lt_of_le l1 sb.size)).trans s10, (hc _ _ (Nat.lt_of_lt_of_le l1 sb.size)).trans s11, (hc _ _ (Nat.lt_of_lt_of_le l1 sb.size)).trans s12, (hc _ _ (Nat.lt_of_lt_of_le l1 sb.size)).trans s13, sb.trans (hb.mono sb.size)⟩

set_option maxHeartbeats 2000000 in
theorem match_at (qf ql qg qr g f a : Int) (t : Bool) (ho ap pr id tx : ByteArray) (la : Option Addr) (n c : Nat) (w : World) :
    Calls Try.prog 10 #[.agg #[.int .i64 qf, .int .i64 ql, .int .u32 qg, .int .u32 qr], .agg #[.int .i64 g, .int .i64 f, .bool t, .int .i64 a, .string ho, .string ap, .string pr, .string id, .slice la n c, .string tx]] w fun e w' =>
      e = .returned (.bool (mayB ⟨qf, ql, qg, qr⟩ (ofB g f a false))) ∧ Below w.heap.size w w' := by
  obtain ⟨R, hR⟩ : ∃ R, mayB ⟨qf, ql, qg, qr⟩ (ofB g f a false) = R := ⟨_, rfl⟩
  rw [hR]
  have HM := Lib.hid (fun W => may_R ⟨qf, ql, qg, qr⟩ (ofB g f a false) R hR W)
  clear hR
  have H0 := Lib.hid (fun (o1 o2 : Obj) => (drew_below ((w.alloc o1).alloc o2)))
  go_enter Try.func10, Try.ntmps10
  go_wp2
  obtain ⟨W0, hW0⟩ : ∃ W0, (w.alloc (.cells #[.int .i64 qf, .int .i64 ql, .int .u32 qg, .int .u32 qr] 24)).alloc (.cells #[.int .i64 g, .int .i64 f, .bool t, .int .i64 a, .string ho, .string ap, .string pr, .string id, .slice la n c, .string tx] 27) = W0 := ⟨_, rfl⟩
  have S0 : W0.drew.cell? ⟨w.heap.size, 0, none⟩ = some (.int .i64 qf) ∧ W0.drew.cell? ⟨w.heap.size, 1, none⟩ = some (.int .i64 ql) ∧ W0.drew.cell? ⟨w.heap.size, 2, none⟩ = some (.int .u32 qg) ∧ W0.drew.cell? ⟨w.heap.size, 3, none⟩ = some (.int .u32 qr) ∧ W0.drew.cell? ⟨w.heap.size + 1, 0, none⟩ = some (.int .i64 g) ∧ W0.drew.cell? ⟨w.heap.size + 1, 1, none⟩ = some (.int .i64 f) ∧ W0.drew.cell? ⟨w.heap.size + 1, 2, none⟩ = some (.bool t) ∧ W0.drew.cell? ⟨w.heap.size + 1, 3, none⟩ = some (.int .i64 a) ∧ W0.drew.cell? ⟨w.heap.size + 1, 4, none⟩ = some (.string ho) ∧ W0.drew.cell? ⟨w.heap.size + 1, 5, none⟩ = some (.string ap) ∧ W0.drew.cell? ⟨w.heap.size + 1, 6, none⟩ = some (.string pr) ∧ W0.drew.cell? ⟨w.heap.size + 1, 7, none⟩ = some (.string id) ∧ W0.drew.cell? ⟨w.heap.size + 1, 8, none⟩ = some (.slice la n c) ∧ W0.drew.cell? ⟨w.heap.size + 1, 9, none⟩ = some (.string tx) ∧ Below W0.heap.size W0 W0.drew := by
    refine ⟨?_, ?_, ?_, ?_, ?_, ?_, ?_, ?_, ?_, ?_, ?_, ?_, ?_, ?_, drew_below W0⟩ <;> (rw [← hW0]; simp [go_sem])
  have hz0 : w.heap.size < W0.heap.size := by rw [← hW0]; simp; omega
  have hz1 : w.heap.size + 1 < W0.heap.size := by rw [← hW0]; simp
  have hb0 : Below w.heap.size w W0 := by rw [← hW0]; exact two_below w _ _
  rw [hW0]
  clear hW0 H0
  go_region_held3 (fun w' => w'.cell? ⟨w.heap.size, 0, none⟩ = some (.int .i64 qf) ∧ w'.cell? ⟨w.heap.size, 1, none⟩ = some (.int .i64 ql) ∧ w'.cell? ⟨w.heap.size, 2, none⟩ = some (.int .u32 qg) ∧ w'.cell? ⟨w.heap.size, 3, none⟩ = some (.int .u32 qr) ∧ w'.cell? ⟨w.heap.size + 1, 0, none⟩ = some (.int .i64 g) ∧ w'.cell? ⟨w.heap.size + 1, 1, none⟩ = some (.int .i64 f) ∧ w'.cell? ⟨w.heap.size + 1, 2, none⟩ = some (.bool t) ∧ w'.cell? ⟨w.heap.size + 1, 3, none⟩ = some (.int .i64 a) ∧ w'.cell? ⟨w.heap.size + 1, 4, none⟩ = some (.string ho) ∧ w'.cell? ⟨w.heap.size + 1, 5, none⟩ = some (.string ap) ∧ w'.cell? ⟨w.heap.size + 1, 6, none⟩ = some (.string pr) ∧ w'.cell? ⟨w.heap.size + 1, 7, none⟩ = some (.string id) ∧ w'.cell? ⟨w.heap.size + 1, 8, none⟩ = some (.slice la n c) ∧ w'.cell? ⟨w.heap.size + 1, 9, none⟩ = some (.string tx) ∧ Below W0.heap.size W0 w')
    (first
      | assumption
      | exact next14 hz0 hz1 S0 (by assumption)
      | exact next14 hz0 hz1 (by assumption) (by assumption)
      | exact S0)
    (first
      | (go_at_call 14; (with_reducible refine (of_any g f a t ho ap pr id tx la n c false _).mono ?_); rintro e w' ⟨rfl, hb⟩)
      | (go_at_call 12; (with_reducible refine (HM.out _).mono ?_); rintro e w' ⟨rfl, hb⟩))
  rename_i hS
  have B6 := hb0.trans (hS.2.2.2.2.2.2.2.2.2.2.2.2.2.2.mono hb0.size)
  clear hS S0
  go_wp2
  go_ret
  exact ⟨rfl, B6⟩
end Go.Proofs.Ytloknemmodmkiaa
