/- The texts RefPrintB, CalRefText, CalRefYes, one behind the other. -/
import Derived.Test.YtnaijahhogndjaaGreatDoorT17
import Derived.Test.YtnaijahhogndjaaGreatDoorT16
import Derived.Test.YtnaijahhogndjaaGreatDoorT1
/- What the document's own Print answers of a right event: no time told, without elements. -/
namespace Go.Proofs.YtnaijahhogndjaaGreatDoor
open Go.ChangeShapes Go.WideShapes Go.ChangeAt Go.RowKit

set_option maxHeartbeats 32000000 in
set_option maxRecDepth 100000 in
theorem refPrint_f_none (g f a : Int) (ho ap pr id tx : ByteArray) (la : Option Addr) (lc : Nat) (w : World) (g1 : 0 ≤ g) (g2 : g ≤ 7) (f1 : 0 ≤ f) (f2 : f ≤ 23)
    (hR : ∀ W, Below w.heap.size w W → Calls Tryz.prog 16 #[.agg #[.int .i64 g, .int .i64 f, .bool false, .int .i64 a, .string ho, .string ap, .string pr, .string id, .slice la 0 lc, .string tx]] W fun r w' => r = .returned (.int .i64 0) ∧ Below W.heap.size W w') 
    (z1 : ho.size ≤ 1048576) (z2 : ap.size ≤ 1048576) (z3 : pr.size ≤ 1048576) (z4 : id.size ≤ 1048576) (z5 : tx.size ≤ 70368744177664) :
    Calls Tryz.prog 12 #[.agg #[.int .i64 g, .int .i64 f, .bool false, .int .i64 a, .string ho, .string ap, .string pr, .string id, .slice la 0 lc, .string tx]] w fun r w' => (∃ T, TimeIs false a T ∧ r = .returned (.tuple #[.string (bytes (headT g f T ho ap pr id ++ 45 :: behindT tx.data.toList)), .int .i64 0])) ∧ Below w.heap.size w w' := by
  obtain ⟨D, hD⟩ : ∃ D, bytes (Lib.decDigits (8 * f + g).toNat) = D := ⟨_, rfl⟩
  obtain ⟨O1, o1⟩ : ∃ O, orB ho = O := ⟨_, rfl⟩
  obtain ⟨O2, o2⟩ : ∃ O, orB ap = O := ⟨_, rfl⟩
  obtain ⟨O3, o3⟩ : ∃ O, orB pr = O := ⟨_, rfl⟩
  obtain ⟨O4, o4⟩ : ∃ O, orB id = O := ⟨_, rfl⟩
  have s0 : D.size ≤ 3 := by rw [← hD, bytes_size]; exact dec_len _ (by omega)
  have s1 : O1.size ≤ 1048577 := by rw [← o1]; have := orB_size ho; omega
  have s2 : O2.size ≤ 1048577 := by rw [← o2]; have := orB_size ap; omega
  have s3 : O3.size ≤ 1048577 := by rw [← o3]; have := orB_size pr; omega
  have s4 : O4.size ≤ 1048577 := by rw [← o4]; have := orB_size id; omega
  have HD := Lib.hid hD
  have HW := Lib.hid (show IntKind.i64.wrap (IntKind.i64.wrap (8 * f) + g) = 8 * f + g by rw [wrap_in (x := 8 * f) (by omega) (by omega), wrap_in (by omega) (by omega)])
  have H1 := Lib.hid o1
  have H2 := Lib.hid o2
  have H3 := Lib.hid o3
  have H4 := Lib.hid o4
  have HR := Lib.hid hR
  have hS0 : Pev w w.heap.size g f ho ap pr id tx (.slice la 0 lc) (w.alloc (.cells #[.int .i64 g, .int .i64 f, .bool false, .int .i64 a, .string ho, .string ap, .string pr, .string id, .slice la 0 lc, .string tx] 24)) :=
    ⟨by simp [go_sem], by simp [go_sem], by simp [go_sem], by simp [go_sem], by simp [go_sem], by simp [go_sem], by simp [go_sem], by simp [go_sem], by simp, (Below.refl _ _).alloc (Nat.le_refl _) _⟩
  have c2 : ((w.alloc (.cells #[.int .i64 g, .int .i64 f, .bool false, .int .i64 a, .string ho, .string ap, .string pr, .string id, .slice la 0 lc, .string tx] 24))).cell? ⟨w.heap.size, 2, none⟩ = some (.bool false) := by simp [go_sem]
  have c3 : ((w.alloc (.cells #[.int .i64 g, .int .i64 f, .bool false, .int .i64 a, .string ho, .string ap, .string pr, .string id, .slice la 0 lc, .string tx] 24))).cell? ⟨w.heap.size, 3, none⟩ = some (.int .i64 a) := by simp [go_sem]
  have HS0 := Lib.hid hS0
  have HC2 := Lib.hid c2
  have HC3 := Lib.hid c3
  clear hD o1 o2 o3 o4 hR hS0 c2 c3
  go_enter Tryz.func12, Tryz.ntmps12
  go_wp2_with fail
  refine (HR.out _ HS0.out.2.2.2.2.2.2.2.2.2).mono ?_
  rintro r w2 ⟨rfl, hb2⟩
  have HS2 := Lib.hid (pev_next HS0.out hb2)
  have d2 : w2.cell? ⟨w.heap.size, 2, none⟩ = some (.bool false) := ((bcell hb2).1 _ _ HS0.out.2.2.2.2.2.2.2.2.1).trans HC2.out
  clear hb2
  have HT := Lib.hid (show TimeIs false a [45] from .inl ⟨rfl, rfl⟩)
  have HA := Lib.hid (show bytes [45] = ⟨#[45]⟩ from rfl)
  go_wp2_with fail
  have q0 : ¬ 9223372036854775807 < 1 + D.size := by omega
  have q1 : ¬ 9223372036854775807 < 1 + D.size + 3 := by omega
  have q2 : ¬ 9223372036854775807 < 1 + D.size + 3 + 1 := by omega
  have q3 : ¬ 9223372036854775807 < 1 + D.size + 3 + 1 + 1 := by omega
  have q4 : ¬ 9223372036854775807 < 1 + D.size + 3 + 1 + 1 + O1.size := by omega
  have q5 : ¬ 9223372036854775807 < 1 + D.size + 3 + 1 + 1 + O1.size + 1 := by omega
  have q6 : ¬ 9223372036854775807 < 1 + D.size + 3 + 1 + 1 + O1.size + 1 + O2.size := by omega
  have q7 : ¬ 9223372036854775807 < 1 + D.size + 3 + 1 + 1 + O1.size + 1 + O2.size + 1 := by omega
  have q8 : ¬ 9223372036854775807 < 1 + D.size + 3 + 1 + 1 + O1.size + 1 + O2.size + 1 + O3.size := by omega
  have q9 : ¬ 9223372036854775807 < 1 + D.size + 3 + 1 + 1 + O1.size + 1 + O2.size + 1 + O3.size + 1 := by omega
  have q10 : ¬ 9223372036854775807 < 1 + D.size + 3 + 1 + 1 + O1.size + 1 + O2.size + 1 + O3.size + 1 + O4.size := by omega
  have q11 : ¬ 9223372036854775807 < 1 + D.size + 3 + 1 + 1 + O1.size + 1 + O2.size + 1 + O3.size + 1 + O4.size + 1 := by omega
  go_region_held3 (fun w' => Pev w w.heap.size g f ho ap pr id tx (.slice la 0 lc) w')
    (first
      | assumption
      | exact pev_next (by assumption) (by assumption)
      | exact pev_drew HS2.out 1
      | exact HS2.out)
    (first
      | (go_at_call 34; (with_reducible refine (dec_e HW.out HD.out (by omega) (by omega)).mono ?_); rintro e w' ⟨rfl, hbx⟩)
      | (go_at_call 35; (with_reducible refine (or_t (s := ho) H1.out).mono ?_); rintro e w' ⟨rfl, rfl⟩)
      | (go_at_call 35; (with_reducible refine (or_t (s := ap) H2.out).mono ?_); rintro e w' ⟨rfl, rfl⟩)
      | (go_at_call 35; (with_reducible refine (or_t (s := pr) H3.out).mono ?_); rintro e w' ⟨rfl, rfl⟩)
      | (go_at_call 35; (with_reducible refine (or_t (s := id) H4.out).mono ?_); rintro e w' ⟨rfl, rfl⟩))
  have hhd := head_is (g := g) (f := f) HD.out HA.out H1.out H2.out H3.out H4.out
  rename World => w5
  have P5 : Pev w w.heap.size g f ho ap pr id tx (.slice la 0 lc) w5 := by assumption
  have lH : (headT g f [45] ho ap pr id).length ≤ 5000000 := by
    have e := congrArg ByteArray.size hhd
    rw [bytes_size] at e
    have y1 : (⟨#[60]⟩ : ByteArray).size = 1 := rfl
    have y2 : (⟨#[62, 49, 32]⟩ : ByteArray).size = 3 := rfl
    have y3 : (⟨#[45]⟩ : ByteArray).size = 1 := rfl
    have y4 : (⟨#[32]⟩ : ByteArray).size = 1 := rfl
    rw [← e]
    simp only [ByteArray.size_append]
    omega
  rw [hhd]
  obtain ⟨H, hH⟩ : ∃ H, headT g f [45] ho ap pr id = H := ⟨_, rfl⟩
  rw [hH] at lH ⊢
  have HH := Lib.hid hH
  have HB := Lib.hid P5.2.2.2.2.2.2.2.2.2
  obtain ⟨j0, j1, j4, j5, j6, j7, j8, j9, jz, jB⟩ := P5
  obtain ⟨S0, hS0⟩ : ∃ S, bytes H = S := ⟨_, rfl⟩
  rw [hS0]
  have HS0 := Lib.hid hS0
  have szS : S0.size ≤ 5000000 := by rw [← hS0, bytes_size]; exact lH
  have m1 : ¬ 9223372036854775807 < S0.size + 1 := by omega
  have m2 : ¬ 9223372036854775807 < S0.size + 1 + 4 := by omega
  have m3 : ¬ 9223372036854775807 < S0.size + 1 + 4 + tx.size := by omega
  clear hhd hH hS0 jB
  by_cases hx : 0 < tx.size
  · have hfin : S0 ++ ⟨#[45]⟩ ++ ⟨#[32, 239, 187, 191]⟩ ++ tx = bytes (headT g f [45] ho ap pr id ++ 45 :: behindT tx.data.toList) := by
      rw [text_is (L := H ++ [45]) (by rw [← HS0.out]; exact (one_is rfl).symm) hx, HH.out, List.append_assoc]; rfl
    have HFIN := Lib.hid hfin
    clear hfin
    go_wp2
    go_loopw [6, 7] (fun s i wr => s = .string (S0 ++ ⟨#[45]⟩) ∧ i = .int .i64 0 ∧ wr = w5) (fun _ _ _ => 0)
    case atStart => exact ⟨rfl, rfl, rfl⟩
    case round =>
      obtain ⟨rfl, rfl, rfl⟩ := hrel
      go_wp2
      go_ret2
      exact ⟨⟨_, HT.out, by rw [← HFIN.out]; rfl⟩, HB.out⟩
  · have hfin : S0 ++ ⟨#[45]⟩ = bytes (headT g f [45] ho ap pr id ++ 45 :: behindT tx.data.toList) := by
      rw [one_is HS0.out, text_no (by omega), HH.out]
    have HFIN := Lib.hid hfin
    clear hfin
    go_wp2
    go_loopw [6, 7] (fun s i wr => s = .string (S0 ++ ⟨#[45]⟩) ∧ i = .int .i64 0 ∧ wr = w5) (fun _ _ _ => 0)
    case atStart => exact ⟨rfl, rfl, rfl⟩
    case round =>
      obtain ⟨rfl, rfl, rfl⟩ := hrel
      go_wp2
      go_ret2
      exact ⟨⟨_, HT.out, by rw [← HFIN.out]; rfl⟩, HB.out⟩
end Go.Proofs.YtnaijahhogndjaaGreatDoor
/- What the document's own 'figures' answers at two, four and six figures, and its Text where a date isn't right. No conditions. -/
namespace Go.Proofs.YtnaijahhogndjaaGreatDoor.Cal
open Go.ChangeShapes Go.WideShapes Go.ChangeAt Go.RowKit

theorem rfig_t {n : Int} {k : Nat} {w : World} {A : ByteArray} (h : bytes (pad k n.toNat) = A) (h0 : 0 ≤ n) (hk6 : k ≤ 6) (hn : n < 1000000) :
    Calls Tryz.prog 69 #[.int .i64 n, .int .i64 k] w fun e w' => e = .returned (.string A) ∧ Below w.heap.size w w' := by
  have := rfigures_any n.toNat k w (by omega) hk6
  rw [Int.toNat_of_nonneg h0, h] at this
  exact this
theorem rfig2_t {n : Int} {w : World} {A : ByteArray} (h : bytes (pad 2 n.toNat) = A) (h0 : 0 ≤ n) (hn : n < 1000000) :
    Calls Tryz.prog 69 #[.int .i64 n, .int .i64 2] w fun e w' => e = .returned (.string A) ∧ Below w.heap.size w w' := rfig_t (k := 2) h h0 (by decide) hn
theorem rfig4_t {n : Int} {w : World} {A : ByteArray} (h : bytes (pad 4 n.toNat) = A) (h0 : 0 ≤ n) (hn : n < 1000000) :
    Calls Tryz.prog 69 #[.int .i64 n, .int .i64 4] w fun e w' => e = .returned (.string A) ∧ Below w.heap.size w w' := rfig_t (k := 4) h h0 (by decide) hn
theorem rfig6_t {n : Int} {w : World} {A : ByteArray} (h : bytes (pad 6 n.toNat) = A) (h0 : 0 ≤ n) (hn : n < 1000000) :
    Calls Tryz.prog 69 #[.int .i64 n, .int .i64 6] w fun e w' => e = .returned (.string A) ∧ Below w.heap.size w w' := rfig_t (k := 6) h h0 (by decide) hn
theorem rtext_no (y m d h i s n z : Int) (w : World) (hr : rightB y m d h i s n z = false) :
    Calls Tryz.prog 32 #[.agg #[.int .i64 y, .int .i64 m, .int .i64 d, .int .i64 h, .int .i64 i, .int .i64 s, .int .i64 n, .int .i64 z]] w
      fun e w' => e = .returned (.tuple #[.string (bytes []), .int .i64 1]) ∧ Below w.heap.size w w' := by
  have hb : Below w.heap.size w (w.alloc (.cells #[.int .i64 y, .int .i64 m, .int .i64 d, .int .i64 h, .int .i64 i, .int .i64 s, .int .i64 n, .int .i64 z] 62)) := (Below.refl _ _).alloc (Nat.le_refl _) _
  go_enter Tryz.func32, Tryz.ntmps32
  go_wp2_with (go_at_call 68; refine (rright_any _ _ _ _ _ _ _ _ _).mono ?_; rintro e w' ⟨rfl, hb2⟩)
  go_ret2
  exact ⟨rfl, hb.trans (hb2.mono (by simp))⟩
end Go.Proofs.YtnaijahhogndjaaGreatDoor.Cal
/- What the document's own Text answers of a right date: the date's text. No conditions. -/
namespace Go.Proofs.YtnaijahhogndjaaGreatDoor.Cal
open Go.ChangeShapes Go.WideShapes Go.ChangeAt Go.RowKit

theorem wrap_i64 (x : Int) (h1 : -1000000 ≤ x) (h2 : x ≤ 1000000) : IntKind.i64.wrap x = x := by
  show (IntKind.wrap .i64 x) = x
  simp [IntKind.wrap, IntKind.bits, IntKind.signed]; omega
set_option maxRecDepth 100000
set_option maxHeartbeats 4000000 in
theorem rtext_yes (y m d h i s n z : Int) (w : World) (hr : rightB y m d h i s n z = true) :
    Calls Tryz.prog 32 #[.agg #[.int .i64 y, .int .i64 m, .int .i64 d, .int .i64 h, .int .i64 i, .int .i64 s, .int .i64 n, .int .i64 z]] w
      fun e w' => e = .returned (.tuple #[.string (bytes (dateText y m d h i s n z)), .int .i64 0]) ∧ Below w.heap.size w w' := by
  obtain ⟨⟨y1, y2⟩, ⟨d1, d2⟩, ⟨h1, h2⟩, ⟨i1, i2⟩, ⟨s1, s2⟩, ⟨n1, n2⟩, n3, ⟨z1, z2⟩⟩ := (right_iff ..).1 hr
  obtain ⟨m1, m2⟩ := month_of_day d1 d2
  have d3 : d ≤ 31 := by have := (lenI_bd y m).2; omega
  obtain ⟨A1, e1, q1⟩ := named_pad 4 y.toNat
  obtain ⟨A2, e2, q2⟩ := named_pad 2 m.toNat
  obtain ⟨A3, e3, q3⟩ := named_pad 2 d.toNat
  obtain ⟨A4, e4, q4⟩ := named_pad 2 h.toNat
  obtain ⟨A5, e5, q5⟩ := named_pad 2 i.toNat
  obtain ⟨A6, e6, q6⟩ := named_pad 2 s.toNat
  obtain ⟨A7, e7, q7⟩ := named_pad 6 (n / 1000).toNat
  have E1 := Lib.hid e1
  have E2 := Lib.hid e2
  have E3 := Lib.hid e3
  have E4 := Lib.hid e4
  have E5 := Lib.hid e5
  have E6 := Lib.hid e6
  have E7 := Lib.hid e7
  have N3 := Lib.hid n3
  clear e1 e2 e3 e4 e5 e6 e7 d2 n3
  have hb : Below w.heap.size w (w.alloc (.cells #[.int .i64 y, .int .i64 m, .int .i64 d, .int .i64 h, .int .i64 i, .int .i64 s, .int .i64 n, .int .i64 z] 62)) := (Below.refl _ _).alloc (Nat.le_refl _) _
  go_enter Tryz.func32, Tryz.ntmps32
  go_wp2_with fail
  refine (rright_any _ _ _ _ _ _ _ _ _).mono ?_
  rintro e w2 ⟨rfl, hb2⟩
  have B2 : Below w.heap.size w w2 := hb.trans (hb2.mono (by simp))
  obtain ⟨hc2, hf2⟩ := bcell hb2
  have hz2 : w.heap.size < w2.heap.size := by have := hb2.size; simp at this; omega
  have hC : w2.cell? ⟨w.heap.size, 0, none⟩ = some (.int .i64 y) ∧ w2.cell? ⟨w.heap.size, 1, none⟩ = some (.int .i64 m) ∧ w2.cell? ⟨w.heap.size, 2, none⟩ = some (.int .i64 d) ∧ w2.cell? ⟨w.heap.size, 3, none⟩ = some (.int .i64 h) ∧ w2.cell? ⟨w.heap.size, 4, none⟩ = some (.int .i64 i) ∧ w2.cell? ⟨w.heap.size, 5, none⟩ = some (.int .i64 s) ∧ w2.cell? ⟨w.heap.size, 6, none⟩ = some (.int .i64 n) ∧ w2.cell? ⟨w.heap.size, 7, none⟩ = some (.int .i64 z) := by simp [hc2, go_sem]
  obtain ⟨k0, k1, k2, k3, k4, k5, k6, k7⟩ := hC
  clear hb hb2 hc2 hf2
  go_wp2_with fail
  have c1 : ¬ 9223372036854775807 < A1.size + 1 := by omega
  have c2 : ¬ 9223372036854775807 < A1.size + 1 + A2.size := by omega
  have c3 : ¬ 9223372036854775807 < A1.size + 1 + A2.size + 1 := by omega
  have c4 : ¬ 9223372036854775807 < A1.size + 1 + A2.size + 1 + A3.size := by omega
  go_region_held3 (fun w' => w'.cell? ⟨w.heap.size, 0, none⟩ = some (.int .i64 y) ∧ w'.cell? ⟨w.heap.size, 1, none⟩ = some (.int .i64 m) ∧ w'.cell? ⟨w.heap.size, 2, none⟩ = some (.int .i64 d) ∧ w'.cell? ⟨w.heap.size, 3, none⟩ = some (.int .i64 h) ∧ w'.cell? ⟨w.heap.size, 4, none⟩ = some (.int .i64 i) ∧ w'.cell? ⟨w.heap.size, 5, none⟩ = some (.int .i64 s) ∧ w'.cell? ⟨w.heap.size, 6, none⟩ = some (.int .i64 n) ∧ w'.cell? ⟨w.heap.size, 7, none⟩ = some (.int .i64 z) ∧ Below w2.heap.size w2 w')
    (first
      | assumption
      | exact held8_next (by assumption) hz2 (by assumption)
      | exact ⟨k0, k1, k2, k3, k4, k5, k6, k7, drewN_below w2 1⟩)
    (first
      | (go_at_call 69; (with_reducible refine (rfig4_t (n := y) E1.out (by omega) (by omega)).mono ?_); rintro e w' ⟨rfl, hbx⟩)
      | (go_at_call 69; (with_reducible refine (rfig2_t (n := m) E2.out (by omega) (by omega)).mono ?_); rintro e w' ⟨rfl, hbx⟩)
      | (go_at_call 69; (with_reducible refine (rfig2_t (n := d) E3.out (by omega) (by omega)).mono ?_); rintro e w' ⟨rfl, hbx⟩))
  rename World => w3
  rename_i hS3
  have B3 := B2.trans ((held8_below hS3).mono B2.size)
  obtain ⟨j0, j1, j2, j3, j4, j5, j6, j7, hb3⟩ := hS3
  have hz3 : w.heap.size < w3.heap.size := Nat.lt_of_lt_of_le hz2 hb3.size
  clear k0 k1 k2 k3 k4 k5 k6 k7 hb3 hz2 B2 c1 c2 c3 c4
  obtain ⟨T1, hT1⟩ : ∃ T1, A1 ++ (⟨#[45]⟩ : ByteArray) ++ A2 ++ (⟨#[45]⟩ : ByteArray) ++ A3 = T1 := ⟨_, rfl⟩
  have t1 : T1.size ≤ 10 := by rw [← hT1]; simp only [ByteArray.size_append, show (⟨#[45]⟩ : ByteArray).size = 1 from rfl]; omega
  rw [hT1]
  have HT1 := Lib.hid hT1
  clear hT1
  have c1 : ¬ 9223372036854775807 < T1.size + 1 := by omega
  have c2 : ¬ 9223372036854775807 < T1.size + 1 + A4.size := by omega
  have c3 : ¬ 9223372036854775807 < T1.size + 1 + A4.size + 1 := by omega
  have c4 : ¬ 9223372036854775807 < T1.size + 1 + A4.size + 1 + A5.size := by omega
  have c5 : ¬ 9223372036854775807 < T1.size + 1 + A4.size + 1 + A5.size + 1 := by omega
  have c6 : ¬ 9223372036854775807 < T1.size + 1 + A4.size + 1 + A5.size + 1 + A6.size := by omega
  go_wp2_with fail
  go_region_held3 (fun w' => w'.cell? ⟨w.heap.size, 0, none⟩ = some (.int .i64 y) ∧ w'.cell? ⟨w.heap.size, 1, none⟩ = some (.int .i64 m) ∧ w'.cell? ⟨w.heap.size, 2, none⟩ = some (.int .i64 d) ∧ w'.cell? ⟨w.heap.size, 3, none⟩ = some (.int .i64 h) ∧ w'.cell? ⟨w.heap.size, 4, none⟩ = some (.int .i64 i) ∧ w'.cell? ⟨w.heap.size, 5, none⟩ = some (.int .i64 s) ∧ w'.cell? ⟨w.heap.size, 6, none⟩ = some (.int .i64 n) ∧ w'.cell? ⟨w.heap.size, 7, none⟩ = some (.int .i64 z) ∧ Below w3.heap.size w3 w')
    (first
      | assumption
      | exact held8_next (by assumption) hz3 (by assumption)
      | exact ⟨j0, j1, j2, j3, j4, j5, j6, j7, drewN_below w3 1⟩)
    (first
      | (go_at_call 69; (with_reducible refine (rfig2_t (n := h) E4.out (by omega) (by omega)).mono ?_); rintro e w' ⟨rfl, hbx⟩)
      | (go_at_call 69; (with_reducible refine (rfig2_t (n := i) E5.out (by omega) (by omega)).mono ?_); rintro e w' ⟨rfl, hbx⟩)
      | (go_at_call 69; (with_reducible refine (rfig2_t (n := s) E6.out (by omega) (by omega)).mono ?_); rintro e w' ⟨rfl, hbx⟩))
  rename World => w4
  rename_i hS4
  have B4 := B3.trans ((held8_below hS4).mono B3.size)
  obtain ⟨g0, g1, g2, g3, g4, g5, g6, g7, hb4⟩ := hS4
  have hz4 : w.heap.size < w4.heap.size := Nat.lt_of_lt_of_le hz3 hb4.size
  clear j0 j1 j2 j3 j4 j5 j6 j7 hb4 B3
  obtain ⟨T2, hT2⟩ : ∃ T2, T1 ++ (⟨#[84]⟩ : ByteArray) ++ A4 ++ (⟨#[58]⟩ : ByteArray) ++ A5 ++ (⟨#[58]⟩ : ByteArray) ++ A6 = T2 := ⟨_, rfl⟩
  have t2 : T2.size ≤ 19 := by rw [← hT2]; simp only [ByteArray.size_append, show (⟨#[84]⟩ : ByteArray).size = 1 from rfl, show (⟨#[58]⟩ : ByteArray).size = 1 from rfl]; omega
  rw [hT2]
  have HT2 := Lib.hid hT2
  clear hT2 c1 c2 c3 c4 c5 c6
  have key : bytes (dateText y m d h i s n z) = T2 ++ (bytes (nanoText n) ++ bytes (zoneText z)) := by
    rw [← HT2.out, ← HT1.out, ← E1.out, ← E2.out, ← E3.out, ← E4.out, ← E5.out, ← E6.out]
    rw [show (⟨#[45]⟩ : ByteArray) = bytes [45] from rfl, show (⟨#[84]⟩ : ByteArray) = bytes [84] from rfl, show (⟨#[58]⟩ : ByteArray) = bytes [58] from rfl]
    simp only [bytes_append]
    unfold dateText
    congr 1
  have KEY := Lib.hid key
  clear key
  rcases (show z = 0 ∨ z < 0 ∨ 0 < z by omega) with hz | hz | hz
  · subst hz
    by_cases h0 : n = 0
    · subst h0
      have KEYA := Lib.hid (show bytes (dateText y m d h i s 0 0) = T2 ++ bytes (zoneText 0) by rw [KEY.out, show bytes (nanoText 0) = ByteArray.empty from rfl, ByteArray.empty_append])
      have d1 : ¬ 9223372036854775807 < T2.size + 1 := by omega
      go_wp2
      go_ret2
      refine ⟨?_, B4⟩
      show Ending.returned (.tuple #[.string (T2 ++ (⟨#[90]⟩ : ByteArray)), .int .i64 0]) = _
      rw [KEYA.out]
      rfl
    · have hn0 : 0 < n := by omega
      have c7 : ¬ 9223372036854775807 < T2.size + 1 := by omega
      have c8 : ¬ 9223372036854775807 < T2.size + 1 + A7.size := by omega
      clear h0
      go_wp2_with fail
      refine (rfig6_t E7.out (by omega) (by omega)).mono ?_
      rintro e w5 ⟨rfl, hb5⟩
      obtain ⟨hc5, hf5⟩ := bcell hb5
      have B5 := B4.trans (hb5.mono B4.size)
      have hz5 : w.heap.size < w5.heap.size := Nat.lt_of_lt_of_le hz4 hb5.size
      have hF : w5.cell? ⟨w.heap.size, 0, none⟩ = some (.int .i64 y) ∧ w5.cell? ⟨w.heap.size, 1, none⟩ = some (.int .i64 m) ∧ w5.cell? ⟨w.heap.size, 2, none⟩ = some (.int .i64 d) ∧ w5.cell? ⟨w.heap.size, 3, none⟩ = some (.int .i64 h) ∧ w5.cell? ⟨w.heap.size, 4, none⟩ = some (.int .i64 i) ∧ w5.cell? ⟨w.heap.size, 5, none⟩ = some (.int .i64 s) ∧ w5.cell? ⟨w.heap.size, 6, none⟩ = some (.int .i64 n) ∧ w5.cell? ⟨w.heap.size, 7, none⟩ = some (.int .i64 0) := by simp [go_sem, *]
      obtain ⟨f0, f1, f2, f3, f4, f5, f6, f7⟩ := hF
      obtain ⟨T3, hT3⟩ : ∃ T3, T2 ++ (⟨#[46]⟩ : ByteArray) ++ A7 = T3 := ⟨_, rfl⟩
      have t3 : T3.size ≤ 26 := by rw [← hT3]; simp only [ByteArray.size_append, show (⟨#[46]⟩ : ByteArray).size = 1 from rfl]; omega
      have KEYB := Lib.hid (show bytes (dateText y m d h i s n 0) = T3 ++ bytes (zoneText 0) by
        rw [KEY.out, ← hT3]
        unfold nanoText
        rw [if_neg (by omega), ← bytes_append, show n.toNat / 1000 = (n / 1000).toNat by omega, E7.out]
        simp only [ByteArray.append_assoc]
        rfl)
      clear hc5 hf5 hb5
      have c9 : ¬ 9223372036854775807 < T3.size + 1 := by omega
      go_wp2
      go_ret2
      refine ⟨?_, B5⟩
      show Ending.returned (.tuple #[.string (T3 ++ (⟨#[90]⟩ : ByteArray)), .int .i64 0]) = _
      rw [KEYB.out]
      rfl
  · obtain ⟨Z, rfl⟩ : ∃ Z, z = -Z := ⟨-z, by omega⟩
    obtain ⟨Q1, hQ1, o1⟩ := named_pad 2 (Z / 60).toNat
    obtain ⟨Q2, hQ2, o2⟩ := named_pad 2 (Z % 60).toNat
    have HZ := Lib.hid (show bytes (zoneText (-Z)) = (⟨#[45]⟩ : ByteArray) ++ (Q1 ++ ((⟨#[58]⟩ : ByteArray) ++ Q2)) by
      unfold zoneText
      rw [if_neg (by omega), if_pos (by omega), show (-Z).natAbs / 60 = (Z / 60).toNat by omega, show (-Z).natAbs % 60 = (Z % 60).toNat by omega, ← hQ1, ← hQ2, show (⟨#[45]⟩ : ByteArray) = bytes [45] from rfl, show (⟨#[58]⟩ : ByteArray) = bytes [58] from rfl]
      simp only [bytes_append])
    obtain ⟨R1, hR1, r1, r1'⟩ : ∃ R1 : Int, Z / 60 = R1 ∧ 0 ≤ R1 ∧ R1 < 24 := ⟨_, rfl, by omega, by omega⟩
    obtain ⟨R2, hR2, r2, r2'⟩ : ∃ R2 : Int, Z % 60 = R2 ∧ 0 ≤ R2 ∧ R2 < 60 := ⟨_, rfl, by omega, by omega⟩
    have p1 : IntKind.i64.wrap ((IntKind.i64.wrap Z).tdiv 60) = R1 := by
      rw [wrap_i64 Z (by omega) (by omega), Int.tdiv_eq_ediv_of_nonneg (by omega), wrap_i64 _ (by omega) (by omega), hR1]
    have p2 : (IntKind.i64.wrap Z).tmod 60 = R2 := by
      rw [wrap_i64 Z (by omega) (by omega), Int.tmod_eq_emod_of_nonneg (by omega), hR2]
    rw [hR1] at hQ1
    rw [hR2] at hQ2
    have F1 := Lib.hid hQ1
    have F2 := Lib.hid hQ2
    clear hQ1 hQ2 hR1 hR2
    by_cases h0 : n = 0
    · subst h0
      have KEYA := Lib.hid (show bytes (dateText y m d h i s 0 (-Z)) = T2 ++ bytes (zoneText (-Z)) by rw [KEY.out, show bytes (nanoText 0) = ByteArray.empty from rfl, ByteArray.empty_append])
      have d1 : ¬ 9223372036854775807 < T2.size + 1 := by omega
      have d2 : ¬ 9223372036854775807 < T2.size + 1 + Q1.size := by omega
      have d3 : ¬ 9223372036854775807 < T2.size + 1 + Q1.size + 1 := by omega
      have d4 : ¬ 9223372036854775807 < T2.size + 1 + Q1.size + 1 + Q2.size := by omega
      go_wp2_with fail
      go_region_held3 (fun w' => w'.cell? ⟨w.heap.size, 0, none⟩ = some (.int .i64 y) ∧ w'.cell? ⟨w.heap.size, 1, none⟩ = some (.int .i64 m) ∧ w'.cell? ⟨w.heap.size, 2, none⟩ = some (.int .i64 d) ∧ w'.cell? ⟨w.heap.size, 3, none⟩ = some (.int .i64 h) ∧ w'.cell? ⟨w.heap.size, 4, none⟩ = some (.int .i64 i) ∧ w'.cell? ⟨w.heap.size, 5, none⟩ = some (.int .i64 s) ∧ w'.cell? ⟨w.heap.size, 6, none⟩ = some (.int .i64 0) ∧ w'.cell? ⟨w.heap.size, 7, none⟩ = some (.int .i64 (-Z)) ∧ Below w4.heap.size w4 w')
        (first
          | assumption
          | exact held8_next (by assumption) hz4 (by assumption)
          | exact ⟨g0, g1, g2, g3, g4, g5, g6, g7, drewN_below w4 1⟩)
        (first
          | (go_at_call 69; (with_reducible refine (rfig2_t (n := R1) F1.out (by omega) (by omega)).mono ?_); rintro e w' ⟨rfl, hbx⟩)
          | (go_at_call 69; (with_reducible refine (rfig2_t (n := R2) F2.out (by omega) (by omega)).mono ?_); rintro e w' ⟨rfl, hbx⟩))
      rename World => w6
      rename_i hS6
      have B6 := B4.trans ((held8_below hS6).mono B4.size)
      clear hS6
      go_wp2
      go_ret2
      refine ⟨?_, B6⟩
      show Ending.returned (.tuple #[.string (T2 ++ (⟨#[45]⟩ : ByteArray) ++ Q1 ++ (⟨#[58]⟩ : ByteArray) ++ Q2), .int .i64 0]) = _
      rw [KEYA.out, HZ.out]
      simp only [ByteArray.append_assoc]
    · have hn0 : 0 < n := by omega
      have c7 : ¬ 9223372036854775807 < T2.size + 1 := by omega
      have c8 : ¬ 9223372036854775807 < T2.size + 1 + A7.size := by omega
      clear h0
      go_wp2_with fail
      refine (rfig6_t E7.out (by omega) (by omega)).mono ?_
      rintro e w5 ⟨rfl, hb5⟩
      obtain ⟨hc5, hf5⟩ := bcell hb5
      have B5 := B4.trans (hb5.mono B4.size)
      have hz5 : w.heap.size < w5.heap.size := Nat.lt_of_lt_of_le hz4 hb5.size
      have hF : w5.cell? ⟨w.heap.size, 0, none⟩ = some (.int .i64 y) ∧ w5.cell? ⟨w.heap.size, 1, none⟩ = some (.int .i64 m) ∧ w5.cell? ⟨w.heap.size, 2, none⟩ = some (.int .i64 d) ∧ w5.cell? ⟨w.heap.size, 3, none⟩ = some (.int .i64 h) ∧ w5.cell? ⟨w.heap.size, 4, none⟩ = some (.int .i64 i) ∧ w5.cell? ⟨w.heap.size, 5, none⟩ = some (.int .i64 s) ∧ w5.cell? ⟨w.heap.size, 6, none⟩ = some (.int .i64 n) ∧ w5.cell? ⟨w.heap.size, 7, none⟩ = some (.int .i64 (-Z)) := by simp [go_sem, *]
      obtain ⟨f0, f1, f2, f3, f4, f5, f6, f7⟩ := hF
      obtain ⟨T3, hT3⟩ : ∃ T3, T2 ++ (⟨#[46]⟩ : ByteArray) ++ A7 = T3 := ⟨_, rfl⟩
      have t3 : T3.size ≤ 26 := by rw [← hT3]; simp only [ByteArray.size_append, show (⟨#[46]⟩ : ByteArray).size = 1 from rfl]; omega
      have KEYB := Lib.hid (show bytes (dateText y m d h i s n (-Z)) = T3 ++ bytes (zoneText (-Z)) by
        rw [KEY.out, ← hT3]
        unfold nanoText
        rw [if_neg (by omega), ← bytes_append, show n.toNat / 1000 = (n / 1000).toNat by omega, E7.out]
        simp only [ByteArray.append_assoc]
        rfl)
      clear hc5 hf5 hb5
      have d1 : ¬ 9223372036854775807 < T3.size + 1 := by omega
      have d2 : ¬ 9223372036854775807 < T3.size + 1 + Q1.size := by omega
      have d3 : ¬ 9223372036854775807 < T3.size + 1 + Q1.size + 1 := by omega
      have d4 : ¬ 9223372036854775807 < T3.size + 1 + Q1.size + 1 + Q2.size := by omega
      go_wp2_with fail
      clear hT3 c7 c8
      go_region_held3 (fun w' => w'.cell? ⟨w.heap.size, 0, none⟩ = some (.int .i64 y) ∧ w'.cell? ⟨w.heap.size, 1, none⟩ = some (.int .i64 m) ∧ w'.cell? ⟨w.heap.size, 2, none⟩ = some (.int .i64 d) ∧ w'.cell? ⟨w.heap.size, 3, none⟩ = some (.int .i64 h) ∧ w'.cell? ⟨w.heap.size, 4, none⟩ = some (.int .i64 i) ∧ w'.cell? ⟨w.heap.size, 5, none⟩ = some (.int .i64 s) ∧ w'.cell? ⟨w.heap.size, 6, none⟩ = some (.int .i64 n) ∧ w'.cell? ⟨w.heap.size, 7, none⟩ = some (.int .i64 (-Z)) ∧ Below w5.heap.size w5 w')
        (first
          | assumption
          | exact held8_next (by assumption) hz5 (by assumption)
          | exact ⟨f0, f1, f2, f3, f4, f5, f6, f7, drewN_below w5 1⟩)
        (first
          | (go_at_call 69; (with_reducible refine (rfig2_t (n := R1) F1.out (by omega) (by omega)).mono ?_); rintro e w' ⟨rfl, hbx⟩)
          | (go_at_call 69; (with_reducible refine (rfig2_t (n := R2) F2.out (by omega) (by omega)).mono ?_); rintro e w' ⟨rfl, hbx⟩))
      rename World => w6
      rename_i hS6
      have B6 := B5.trans ((held8_below hS6).mono B5.size)
      clear hS6
      go_wp2
      go_ret2
      refine ⟨?_, B6⟩
      show Ending.returned (.tuple #[.string (T3 ++ (⟨#[45]⟩ : ByteArray) ++ Q1 ++ (⟨#[58]⟩ : ByteArray) ++ Q2), .int .i64 0]) = _
      rw [KEYB.out, HZ.out]
      simp only [ByteArray.append_assoc]
  · obtain ⟨Q1, hQ1, o1⟩ := named_pad 2 (z / 60).toNat
    obtain ⟨Q2, hQ2, o2⟩ := named_pad 2 (z % 60).toNat
    have HZ := Lib.hid (show bytes (zoneText z) = (⟨#[43]⟩ : ByteArray) ++ (Q1 ++ ((⟨#[58]⟩ : ByteArray) ++ Q2)) by
      unfold zoneText
      rw [if_neg (by omega), if_neg (by omega), show z.natAbs / 60 = (z / 60).toNat by omega, show z.natAbs % 60 = (z % 60).toNat by omega, ← hQ1, ← hQ2, show (⟨#[43]⟩ : ByteArray) = bytes [43] from rfl, show (⟨#[58]⟩ : ByteArray) = bytes [58] from rfl]
      simp only [bytes_append])
    obtain ⟨R1, hR1, r1, r1'⟩ : ∃ R1 : Int, z / 60 = R1 ∧ 0 ≤ R1 ∧ R1 < 24 := ⟨_, rfl, by omega, by omega⟩
    obtain ⟨R2, hR2, r2, r2'⟩ : ∃ R2 : Int, z % 60 = R2 ∧ 0 ≤ R2 ∧ R2 < 60 := ⟨_, rfl, by omega, by omega⟩
    have p1 : IntKind.i64.wrap (z.tdiv 60) = R1 := by
      rw [Int.tdiv_eq_ediv_of_nonneg (by omega), wrap_i64 _ (by omega) (by omega), hR1]
    have p2 : z.tmod 60 = R2 := by
      rw [Int.tmod_eq_emod_of_nonneg (by omega), hR2]
    rw [hR1] at hQ1
    rw [hR2] at hQ2
    have F1 := Lib.hid hQ1
    have F2 := Lib.hid hQ2
    clear hQ1 hQ2 hR1 hR2
    by_cases h0 : n = 0
    · subst h0
      have KEYA := Lib.hid (show bytes (dateText y m d h i s 0 z) = T2 ++ bytes (zoneText z) by rw [KEY.out, show bytes (nanoText 0) = ByteArray.empty from rfl, ByteArray.empty_append])
      have d1 : ¬ 9223372036854775807 < T2.size + 1 := by omega
      have d2 : ¬ 9223372036854775807 < T2.size + 1 + Q1.size := by omega
      have d3 : ¬ 9223372036854775807 < T2.size + 1 + Q1.size + 1 := by omega
      have d4 : ¬ 9223372036854775807 < T2.size + 1 + Q1.size + 1 + Q2.size := by omega
      go_wp2_with fail
      go_region_held3 (fun w' => w'.cell? ⟨w.heap.size, 0, none⟩ = some (.int .i64 y) ∧ w'.cell? ⟨w.heap.size, 1, none⟩ = some (.int .i64 m) ∧ w'.cell? ⟨w.heap.size, 2, none⟩ = some (.int .i64 d) ∧ w'.cell? ⟨w.heap.size, 3, none⟩ = some (.int .i64 h) ∧ w'.cell? ⟨w.heap.size, 4, none⟩ = some (.int .i64 i) ∧ w'.cell? ⟨w.heap.size, 5, none⟩ = some (.int .i64 s) ∧ w'.cell? ⟨w.heap.size, 6, none⟩ = some (.int .i64 0) ∧ w'.cell? ⟨w.heap.size, 7, none⟩ = some (.int .i64 z) ∧ Below w4.heap.size w4 w')
        (first
          | assumption
          | exact held8_next (by assumption) hz4 (by assumption)
          | exact ⟨g0, g1, g2, g3, g4, g5, g6, g7, drewN_below w4 1⟩)
        (first
          | (go_at_call 69; (with_reducible refine (rfig2_t (n := R1) F1.out (by omega) (by omega)).mono ?_); rintro e w' ⟨rfl, hbx⟩)
          | (go_at_call 69; (with_reducible refine (rfig2_t (n := R2) F2.out (by omega) (by omega)).mono ?_); rintro e w' ⟨rfl, hbx⟩))
      rename World => w6
      rename_i hS6
      have B6 := B4.trans ((held8_below hS6).mono B4.size)
      clear hS6
      go_wp2
      go_ret2
      refine ⟨?_, B6⟩
      show Ending.returned (.tuple #[.string (T2 ++ (⟨#[43]⟩ : ByteArray) ++ Q1 ++ (⟨#[58]⟩ : ByteArray) ++ Q2), .int .i64 0]) = _
      rw [KEYA.out, HZ.out]
      simp only [ByteArray.append_assoc]
    · have hn0 : 0 < n := by omega
      have c7 : ¬ 9223372036854775807 < T2.size + 1 := by omega
      have c8 : ¬ 9223372036854775807 < T2.size + 1 + A7.size := by omega
      clear h0
      go_wp2_with fail
      refine (rfig6_t E7.out (by omega) (by omega)).mono ?_
      rintro e w5 ⟨rfl, hb5⟩
      obtain ⟨hc5, hf5⟩ := bcell hb5
      have B5 := B4.trans (hb5.mono B4.size)
      have hz5 : w.heap.size < w5.heap.size := Nat.lt_of_lt_of_le hz4 hb5.size
      have hF : w5.cell? ⟨w.heap.size, 0, none⟩ = some (.int .i64 y) ∧ w5.cell? ⟨w.heap.size, 1, none⟩ = some (.int .i64 m) ∧ w5.cell? ⟨w.heap.size, 2, none⟩ = some (.int .i64 d) ∧ w5.cell? ⟨w.heap.size, 3, none⟩ = some (.int .i64 h) ∧ w5.cell? ⟨w.heap.size, 4, none⟩ = some (.int .i64 i) ∧ w5.cell? ⟨w.heap.size, 5, none⟩ = some (.int .i64 s) ∧ w5.cell? ⟨w.heap.size, 6, none⟩ = some (.int .i64 n) ∧ w5.cell? ⟨w.heap.size, 7, none⟩ = some (.int .i64 z) := by simp [go_sem, *]
      obtain ⟨f0, f1, f2, f3, f4, f5, f6, f7⟩ := hF
      obtain ⟨T3, hT3⟩ : ∃ T3, T2 ++ (⟨#[46]⟩ : ByteArray) ++ A7 = T3 := ⟨_, rfl⟩
      have t3 : T3.size ≤ 26 := by rw [← hT3]; simp only [ByteArray.size_append, show (⟨#[46]⟩ : ByteArray).size = 1 from rfl]; omega
      have KEYB := Lib.hid (show bytes (dateText y m d h i s n z) = T3 ++ bytes (zoneText z) by
        rw [KEY.out, ← hT3]
        unfold nanoText
        rw [if_neg (by omega), ← bytes_append, show n.toNat / 1000 = (n / 1000).toNat by omega, E7.out]
        simp only [ByteArray.append_assoc]
        rfl)
      clear hc5 hf5 hb5
      have d1 : ¬ 9223372036854775807 < T3.size + 1 := by omega
      have d2 : ¬ 9223372036854775807 < T3.size + 1 + Q1.size := by omega
      have d3 : ¬ 9223372036854775807 < T3.size + 1 + Q1.size + 1 := by omega
      have d4 : ¬ 9223372036854775807 < T3.size + 1 + Q1.size + 1 + Q2.size := by omega
      go_wp2_with fail
      clear hT3 c7 c8
      go_region_held3 (fun w' => w'.cell? ⟨w.heap.size, 0, none⟩ = some (.int .i64 y) ∧ w'.cell? ⟨w.heap.size, 1, none⟩ = some (.int .i64 m) ∧ w'.cell? ⟨w.heap.size, 2, none⟩ = some (.int .i64 d) ∧ w'.cell? ⟨w.heap.size, 3, none⟩ = some (.int .i64 h) ∧ w'.cell? ⟨w.heap.size, 4, none⟩ = some (.int .i64 i) ∧ w'.cell? ⟨w.heap.size, 5, none⟩ = some (.int .i64 s) ∧ w'.cell? ⟨w.heap.size, 6, none⟩ = some (.int .i64 n) ∧ w'.cell? ⟨w.heap.size, 7, none⟩ = some (.int .i64 z) ∧ Below w5.heap.size w5 w')
        (first
          | assumption
          | exact held8_next (by assumption) hz5 (by assumption)
          | exact ⟨f0, f1, f2, f3, f4, f5, f6, f7, drewN_below w5 1⟩)
        (first
          | (go_at_call 69; (with_reducible refine (rfig2_t (n := R1) F1.out (by omega) (by omega)).mono ?_); rintro e w' ⟨rfl, hbx⟩)
          | (go_at_call 69; (with_reducible refine (rfig2_t (n := R2) F2.out (by omega) (by omega)).mono ?_); rintro e w' ⟨rfl, hbx⟩))
      rename World => w6
      rename_i hS6
      have B6 := B5.trans ((held8_below hS6).mono B5.size)
      clear hS6
      go_wp2
      go_ret2
      refine ⟨?_, B6⟩
      show Ending.returned (.tuple #[.string (T3 ++ (⟨#[43]⟩ : ByteArray) ++ Q1 ++ (⟨#[58]⟩ : ByteArray) ++ Q2), .int .i64 0]) = _
      rw [KEYB.out, HZ.out]
      simp only [ByteArray.append_assoc]
end Go.Proofs.YtnaijahhogndjaaGreatDoor.Cal
