/- What the document's own Text answers of a right date: the date's text. No conditions. -/
import Derived.Test.YtameffdjjcpbkaaDoorRefText
namespace Go.Proofs.YtameffdjjcpbkaaDoor
open Go.ChangeShapes Go.WideShapes Go.ChangeAt Go.RowKit

theorem wrap_i64 (x : Int) (h1 : -1000000 ≤ x) (h2 : x ≤ 1000000) : IntKind.i64.wrap x = x := by
  show (IntKind.wrap .i64 x) = x
  simp [IntKind.wrap, IntKind.bits, IntKind.signed]; omega
set_option maxRecDepth 100000
set_option maxHeartbeats 4000000 in
theorem rtext_yes (y m d h i s n z : Int) (w : World) (hr : rightB y m d h i s n z = true) :
    Calls Tryd.prog 23 #[.agg #[.int .i64 y, .int .i64 m, .int .i64 d, .int .i64 h, .int .i64 i, .int .i64 s, .int .i64 n, .int .i64 z]] w
      fun e w' => e = .returned (.tuple #[.string (bytes (dateText y m d h i s n z)), .int .i64 0]) ∧ Below w.heap.size w w' := by
  obtain ⟨⟨y1, y2⟩, ⟨d1, d2⟩, ⟨h1, h2⟩, ⟨i1, i2⟩, ⟨s1, s2⟩, ⟨n1, n2⟩, n3, ⟨z1, z2⟩⟩ := (right_iff ..).1 hr
  obtain ⟨m1, m2⟩ := month_of_day d1 d2
  have d3 : d ≤ 31 := by have := (lenI_bd y m).2; omega
  obtain ⟨A1, e1, q1⟩ := named_pad 4 y.toNat
  obtain ⟨A2, e2, q2⟩ := named_pad 2 m.toNat
  obtain ⟨A3, e3, q3⟩ := named_pad 2 d.toNat
  obtain ⟨A4, e4, q4⟩ := named_pad 2 h.toNat
  obtain ⟨A5, e5, q5⟩ := named_pad 2 i.toNat
  obtain ⟨A6, e6, q6⟩ := named_pad 2 s.toNat
  obtain ⟨A7, e7, q7⟩ := named_pad 6 (n / 1000).toNat
  have E1 := Lib.hid e1
  have E2 := Lib.hid e2
  have E3 := Lib.hid e3
  have E4 := Lib.hid e4
  have E5 := Lib.hid e5
  have E6 := Lib.hid e6
  have E7 := Lib.hid e7
  have N3 := Lib.hid n3
  clear e1 e2 e3 e4 e5 e6 e7 d2 n3
  have hb : Below w.heap.size w (w.alloc (.cells #[.int .i64 y, .int .i64 m, .int .i64 d, .int .i64 h, .int .i64 i, .int .i64 s, .int .i64 n, .int .i64 z] 23)) := (Below.refl _ _).alloc (Nat.le_refl _) _
  go_enter Tryd.func23, Tryd.ntmps23
  go_wp2_with fail
  refine (rright_any _ _ _ _ _ _ _ _ _).mono ?_
  rintro e w2 ⟨rfl, hb2⟩
  have B2 : Below w.heap.size w w2 := hb.trans (hb2.mono (by simp))
  obtain ⟨hc2, hf2⟩ := bcell hb2
  have hz2 : w.heap.size < w2.heap.size := by have := hb2.size; simp at this; omega
  have hC : w2.cell? ⟨w.heap.size, 0, none⟩ = some (.int .i64 y) ∧ w2.cell? ⟨w.heap.size, 1, none⟩ = some (.int .i64 m) ∧ w2.cell? ⟨w.heap.size, 2, none⟩ = some (.int .i64 d) ∧ w2.cell? ⟨w.heap.size, 3, none⟩ = some (.int .i64 h) ∧ w2.cell? ⟨w.heap.size, 4, none⟩ = some (.int .i64 i) ∧ w2.cell? ⟨w.heap.size, 5, none⟩ = some (.int .i64 s) ∧ w2.cell? ⟨w.heap.size, 6, none⟩ = some (.int .i64 n) ∧ w2.cell? ⟨w.heap.size, 7, none⟩ = some (.int .i64 z) := by simp [hc2, go_sem]
  obtain ⟨k0, k1, k2, k3, k4, k5, k6, k7⟩ := hC
  clear hb hb2 hc2 hf2
  go_wp2_with fail
  have c1 : ¬ 9223372036854775807 < A1.size + 1 := by omega
  have c2 : ¬ 9223372036854775807 < A1.size + 1 + A2.size := by omega
  have c3 : ¬ 9223372036854775807 < A1.size + 1 + A2.size + 1 := by omega
  have c4 : ¬ 9223372036854775807 < A1.size + 1 + A2.size + 1 + A3.size := by omega
  go_region_held3 (fun w' => w'.cell? ⟨w.heap.size, 0, none⟩ = some (.int .i64 y) ∧ w'.cell? ⟨w.heap.size, 1, none⟩ = some (.int .i64 m) ∧ w'.cell? ⟨w.heap.size, 2, none⟩ = some (.int .i64 d) ∧ w'.cell? ⟨w.heap.size, 3, none⟩ = some (.int .i64 h) ∧ w'.cell? ⟨w.heap.size, 4, none⟩ = some (.int .i64 i) ∧ w'.cell? ⟨w.heap.size, 5, none⟩ = some (.int .i64 s) ∧ w'.cell? ⟨w.heap.size, 6, none⟩ = some (.int .i64 n) ∧ w'.cell? ⟨w.heap.size, 7, none⟩ = some (.int .i64 z) ∧ Below w2.heap.size w2 w')
    (first
      | assumption
      | exact held8_next (by assumption) hz2 (by assumption)
      | exact ⟨k0, k1, k2, k3, k4, k5, k6, k7, drewN_below w2 1⟩)
    (first
      | (go_at_call 32; (with_reducible refine (rfig4_t (n := y) E1.out (by omega) (by omega)).mono ?_); rintro e w' ⟨rfl, hbx⟩)
      | (go_at_call 32; (with_reducible refine (rfig2_t (n := m) E2.out (by omega) (by omega)).mono ?_); rintro e w' ⟨rfl, hbx⟩)
      | (go_at_call 32; (with_reducible refine (rfig2_t (n := d) E3.out (by omega) (by omega)).mono ?_); rintro e w' ⟨rfl, hbx⟩))
  rename World => w3
  rename_i hS3
  have B3 := B2.trans ((held8_below hS3).mono B2.size)
  obtain ⟨j0, j1, j2, j3, j4, j5, j6, j7, hb3⟩ := hS3
  have hz3 : w.heap.size < w3.heap.size := Nat.lt_of_lt_of_le hz2 hb3.size
  clear k0 k1 k2 k3 k4 k5 k6 k7 hb3 hz2 B2 c1 c2 c3 c4
  obtain ⟨T1, hT1⟩ : ∃ T1, A1 ++ (⟨#[45]⟩ : ByteArray) ++ A2 ++ (⟨#[45]⟩ : ByteArray) ++ A3 = T1 := ⟨_, rfl⟩
  have t1 : T1.size ≤ 10 := by rw [← hT1]; simp only [ByteArray.size_append, show (⟨#[45]⟩ : ByteArray).size = 1 from rfl]; omega
  rw [hT1]
  have HT1 := Lib.hid hT1
  clear hT1
  have c1 : ¬ 9223372036854775807 < T1.size + 1 := by omega
  have c2 : ¬ 9223372036854775807 < T1.size + 1 + A4.size := by omega
  have c3 : ¬ 9223372036854775807 < T1.size + 1 + A4.size + 1 := by omega
  have c4 : ¬ 9223372036854775807 < T1.size + 1 + A4.size + 1 + A5.size := by omega
  have c5 : ¬ 9223372036854775807 < T1.size + 1 + A4.size + 1 + A5.size + 1 := by omega
  have c6 : ¬ 9223372036854775807 < T1.size + 1 + A4.size + 1 + A5.size + 1 + A6.size := by omega
  go_wp2_with fail
  go_region_held3 (fun w' => w'.cell? ⟨w.heap.size, 0, none⟩ = some (.int .i64 y) ∧ w'.cell? ⟨w.heap.size, 1, none⟩ = some (.int .i64 m) ∧ w'.cell? ⟨w.heap.size, 2, none⟩ = some (.int .i64 d) ∧ w'.cell? ⟨w.heap.size, 3, none⟩ = some (.int .i64 h) ∧ w'.cell? ⟨w.heap.size, 4, none⟩ = some (.int .i64 i) ∧ w'.cell? ⟨w.heap.size, 5, none⟩ = some (.int .i64 s) ∧ w'.cell? ⟨w.heap.size, 6, none⟩ = some (.int .i64 n) ∧ w'.cell? ⟨w.heap.size, 7, none⟩ = some (.int .i64 z) ∧ Below w3.heap.size w3 w')
    (first
      | assumption
      | exact held8_next (by assumption) hz3 (by assumption)
      | exact ⟨j0, j1, j2, j3, j4, j5, j6, j7, drewN_below w3 1⟩)
    (first
      | (go_at_call 32; (with_reducible refine (rfig2_t (n := h) E4.out (by omega) (by omega)).mono ?_); rintro e w' ⟨rfl, hbx⟩)
      | (go_at_call 32; (with_reducible refine (rfig2_t (n := i) E5.out (by omega) (by omega)).mono ?_); rintro e w' ⟨rfl, hbx⟩)
      | (go_at_call 32; (with_reducible refine (rfig2_t (n := s) E6.out (by omega) (by omega)).mono ?_); rintro e w' ⟨rfl, hbx⟩))
  rename World => w4
  rename_i hS4
  have B4 := B3.trans ((held8_below hS4).mono B3.size)
  obtain ⟨g0, g1, g2, g3, g4, g5, g6, g7, hb4⟩ := hS4
  have hz4 : w.heap.size < w4.heap.size := Nat.lt_of_lt_of_le hz3 hb4.size
  clear j0 j1 j2 j3 j4 j5 j6 j7 hb4 B3
  obtain ⟨T2, hT2⟩ : ∃ T2, T1 ++ (⟨#[84]⟩ : ByteArray) ++ A4 ++ (⟨#[58]⟩ : ByteArray) ++ A5 ++ (⟨#[58]⟩ : ByteArray) ++ A6 = T2 := ⟨_, rfl⟩
  have t2 : T2.size ≤ 19 := by rw [← hT2]; simp only [ByteArray.size_append, show (⟨#[84]⟩ : ByteArray).size = 1 from rfl, show (⟨#[58]⟩ : ByteArray).size = 1 from rfl]; omega
  rw [hT2]
  have HT2 := Lib.hid hT2
  clear hT2 c1 c2 c3 c4 c5 c6
  have key : bytes (dateText y m d h i s n z) = T2 ++ (bytes (nanoText n) ++ bytes (zoneText z)) := by
    rw [← HT2.out, ← HT1.out, ← E1.out, ← E2.out, ← E3.out, ← E4.out, ← E5.out, ← E6.out]
    rw [show (⟨#[45]⟩ : ByteArray) = bytes [45] from rfl, show (⟨#[84]⟩ : ByteArray) = bytes [84] from rfl, show (⟨#[58]⟩ : ByteArray) = bytes [58] from rfl]
    simp only [bytes_append]
    unfold dateText
    congr 1
  have KEY := Lib.hid key
  clear key
  rcases (show z = 0 ∨ z < 0 ∨ 0 < z by omega) with hz | hz | hz
  · subst hz
    by_cases h0 : n = 0
    · subst h0
      have KEYA := Lib.hid (show bytes (dateText y m d h i s 0 0) = T2 ++ bytes (zoneText 0) by rw [KEY.out, show bytes (nanoText 0) = ByteArray.empty from rfl, ByteArray.empty_append])
      have d1 : ¬ 9223372036854775807 < T2.size + 1 := by omega
      go_wp2
      go_ret2
      refine ⟨?_, B4⟩
      show Ending.returned (.tuple #[.string (T2 ++ (⟨#[90]⟩ : ByteArray)), .int .i64 0]) = _
      rw [KEYA.out]
      rfl
    · have hn0 : 0 < n := by omega
      have c7 : ¬ 9223372036854775807 < T2.size + 1 := by omega
      have c8 : ¬ 9223372036854775807 < T2.size + 1 + A7.size := by omega
      clear h0
      go_wp2_with fail
      refine (rfig6_t E7.out (by omega) (by omega)).mono ?_
      rintro e w5 ⟨rfl, hb5⟩
      obtain ⟨hc5, hf5⟩ := bcell hb5
      have B5 := B4.trans (hb5.mono B4.size)
      have hz5 : w.heap.size < w5.heap.size := Nat.lt_of_lt_of_le hz4 hb5.size
      have hF : w5.cell? ⟨w.heap.size, 0, none⟩ = some (.int .i64 y) ∧ w5.cell? ⟨w.heap.size, 1, none⟩ = some (.int .i64 m) ∧ w5.cell? ⟨w.heap.size, 2, none⟩ = some (.int .i64 d) ∧ w5.cell? ⟨w.heap.size, 3, none⟩ = some (.int .i64 h) ∧ w5.cell? ⟨w.heap.size, 4, none⟩ = some (.int .i64 i) ∧ w5.cell? ⟨w.heap.size, 5, none⟩ = some (.int .i64 s) ∧ w5.cell? ⟨w.heap.size, 6, none⟩ = some (.int .i64 n) ∧ w5.cell? ⟨w.heap.size, 7, none⟩ = some (.int .i64 0) := by simp [go_sem, *]
      obtain ⟨f0, f1, f2, f3, f4, f5, f6, f7⟩ := hF
      obtain ⟨T3, hT3⟩ : ∃ T3, T2 ++ (⟨#[46]⟩ : ByteArray) ++ A7 = T3 := ⟨_, rfl⟩
      have t3 : T3.size ≤ 26 := by rw [← hT3]; simp only [ByteArray.size_append, show (⟨#[46]⟩ : ByteArray).size = 1 from rfl]; omega
      have KEYB := Lib.hid (show bytes (dateText y m d h i s n 0) = T3 ++ bytes (zoneText 0) by
        rw [KEY.out, ← hT3]
        unfold nanoText
        rw [if_neg (by omega), ← bytes_append, show n.toNat / 1000 = (n / 1000).toNat by omega, E7.out]
        simp only [ByteArray.append_assoc]
        rfl)
      clear hc5 hf5 hb5
      have c9 : ¬ 9223372036854775807 < T3.size + 1 := by omega
      go_wp2
      go_ret2
      refine ⟨?_, B5⟩
      show Ending.returned (.tuple #[.string (T3 ++ (⟨#[90]⟩ : ByteArray)), .int .i64 0]) = _
      rw [KEYB.out]
      rfl
  · obtain ⟨Z, rfl⟩ : ∃ Z, z = -Z := ⟨-z, by omega⟩
    obtain ⟨Q1, hQ1, o1⟩ := named_pad 2 (Z / 60).toNat
    obtain ⟨Q2, hQ2, o2⟩ := named_pad 2 (Z % 60).toNat
    have HZ := Lib.hid (show bytes (zoneText (-Z)) = (⟨#[45]⟩ : ByteArray) ++ (Q1 ++ ((⟨#[58]⟩ : ByteArray) ++ Q2)) by
      unfold zoneText
      rw [if_neg (by omega), if_pos (by omega), show (-Z).natAbs / 60 = (Z / 60).toNat by omega, show (-Z).natAbs % 60 = (Z % 60).toNat by omega, ← hQ1, ← hQ2, show (⟨#[45]⟩ : ByteArray) = bytes [45] from rfl, show (⟨#[58]⟩ : ByteArray) = bytes [58] from rfl]
      simp only [bytes_append])
    obtain ⟨R1, hR1, r1, r1'⟩ : ∃ R1 : Int, Z / 60 = R1 ∧ 0 ≤ R1 ∧ R1 < 24 := ⟨_, rfl, by omega, by omega⟩
    obtain ⟨R2, hR2, r2, r2'⟩ : ∃ R2 : Int, Z % 60 = R2 ∧ 0 ≤ R2 ∧ R2 < 60 := ⟨_, rfl, by omega, by omega⟩
    have p1 : IntKind.i64.wrap ((IntKind.i64.wrap Z).tdiv 60) = R1 := by
      rw [wrap_i64 Z (by omega) (by omega), Int.tdiv_eq_ediv_of_nonneg (by omega), wrap_i64 _ (by omega) (by omega), hR1]
    have p2 : (IntKind.i64.wrap Z).tmod 60 = R2 := by
      rw [wrap_i64 Z (by omega) (by omega), Int.tmod_eq_emod_of_nonneg (by omega), hR2]
    rw [hR1] at hQ1
    rw [hR2] at hQ2
    have F1 := Lib.hid hQ1
    have F2 := Lib.hid hQ2
    clear hQ1 hQ2 hR1 hR2
    by_cases h0 : n = 0
    · subst h0
      have KEYA := Lib.hid (show bytes (dateText y m d h i s 0 (-Z)) = T2 ++ bytes (zoneText (-Z)) by rw [KEY.out, show bytes (nanoText 0) = ByteArray.empty from rfl, ByteArray.empty_append])
      have d1 : ¬ 9223372036854775807 < T2.size + 1 := by omega
      have d2 : ¬ 9223372036854775807 < T2.size + 1 + Q1.size := by omega
      have d3 : ¬ 9223372036854775807 < T2.size + 1 + Q1.size + 1 := by omega
      have d4 : ¬ 9223372036854775807 < T2.size + 1 + Q1.size + 1 + Q2.size := by omega
      go_wp2_with fail
      go_region_held3 (fun w' => w'.cell? ⟨w.heap.size, 0, none⟩ = some (.int .i64 y) ∧ w'.cell? ⟨w.heap.size, 1, none⟩ = some (.int .i64 m) ∧ w'.cell? ⟨w.heap.size, 2, none⟩ = some (.int .i64 d) ∧ w'.cell? ⟨w.heap.size, 3, none⟩ = some (.int .i64 h) ∧ w'.cell? ⟨w.heap.size, 4, none⟩ = some (.int .i64 i) ∧ w'.cell? ⟨w.heap.size, 5, none⟩ = some (.int .i64 s) ∧ w'.cell? ⟨w.heap.size, 6, none⟩ = some (.int .i64 0) ∧ w'.cell? ⟨w.heap.size, 7, none⟩ = some (.int .i64 (-Z)) ∧ Below w4.heap.size w4 w')
        (first
          | assumption
          | exact held8_next (by assumption) hz4 (by assumption)
          | exact ⟨g0, g1, g2, g3, g4, g5, g6, g7, drewN_below w4 1⟩)
        (first
          | (go_at_call 32; (with_reducible refine (rfig2_t (n := R1) F1.out (by omega) (by omega)).mono ?_); rintro e w' ⟨rfl, hbx⟩)
          | (go_at_call 32; (with_reducible refine (rfig2_t (n := R2) F2.out (by omega) (by omega)).mono ?_); rintro e w' ⟨rfl, hbx⟩))
      rename World => w6
      rename_i hS6
      have B6 := B4.trans ((held8_below hS6).mono B4.size)
      clear hS6
      go_wp2
      go_ret2
      refine ⟨?_, B6⟩
      show Ending.returned (.tuple #[.string (T2 ++ (⟨#[45]⟩ : ByteArray) ++ Q1 ++ (⟨#[58]⟩ : ByteArray) ++ Q2), .int .i64 0]) = _
      rw [KEYA.out, HZ.out]
      simp only [ByteArray.append_assoc]
    · have hn0 : 0 < n := by omega
      have c7 : ¬ 9223372036854775807 < T2.size + 1 := by omega
      have c8 : ¬ 9223372036854775807 < T2.size + 1 + A7.size := by omega
      clear h0
      go_wp2_with fail
      refine (rfig6_t E7.out (by omega) (by omega)).mono ?_
      rintro e w5 ⟨rfl, hb5⟩
      obtain ⟨hc5, hf5⟩ := bcell hb5
      have B5 := B4.trans (hb5.mono B4.size)
      have hz5 : w.heap.size < w5.heap.size := Nat.lt_of_lt_of_le hz4 hb5.size
      have hF : w5.cell? ⟨w.heap.size, 0, none⟩ = some (.int .i64 y) ∧ w5.cell? ⟨w.heap.size, 1, none⟩ = some (.int .i64 m) ∧ w5.cell? ⟨w.heap.size, 2, none⟩ = some (.int .i64 d) ∧ w5.cell? ⟨w.heap.size, 3, none⟩ = some (.int .i64 h) ∧ w5.cell? ⟨w.heap.size, 4, none⟩ = some (.int .i64 i) ∧ w5.cell? ⟨w.heap.size, 5, none⟩ = some (.int .i64 s) ∧ w5.cell? ⟨w.heap.size, 6, none⟩ = some (.int .i64 n) ∧ w5.cell? ⟨w.heap.size, 7, none⟩ = some (.int .i64 (-Z)) := by simp [go_sem, *]
      obtain ⟨f0, f1, f2, f3, f4, f5, f6, f7⟩ := hF
      obtain ⟨T3, hT3⟩ : ∃ T3, T2 ++ (⟨#[46]⟩ : ByteArray) ++ A7 = T3 := ⟨_, rfl⟩
      have t3 : T3.size ≤ 26 := by rw [← hT3]; simp only [ByteArray.size_append, show (⟨#[46]⟩ : ByteArray).size = 1 from rfl]; omega
      have KEYB := Lib.hid (show bytes (dateText y m d h i s n (-Z)) = T3 ++ bytes (zoneText (-Z)) by
        rw [KEY.out, ← hT3]
        unfold nanoText
        rw [if_neg (by omega), ← bytes_append, show n.toNat / 1000 = (n / 1000).toNat by omega, E7.out]
        simp only [ByteArray.append_assoc]
        rfl)
      clear hc5 hf5 hb5
      have d1 : ¬ 9223372036854775807 < T3.size + 1 := by omega
      have d2 : ¬ 9223372036854775807 < T3.size + 1 + Q1.size := by omega
      have d3 : ¬ 9223372036854775807 < T3.size + 1 + Q1.size + 1 := by omega
      have d4 : ¬ 9223372036854775807 < T3.size + 1 + Q1.size + 1 + Q2.size := by omega
      go_wp2_with fail
      clear hT3 c7 c8
      go_region_held3 (fun w' => w'.cell? ⟨w.heap.size, 0, none⟩ = some (.int .i64 y) ∧ w'.cell? ⟨w.heap.size, 1, none⟩ = some (.int .i64 m) ∧ w'.cell? ⟨w.heap.size, 2, none⟩ = some (.int .i64 d) ∧ w'.cell? ⟨w.heap.size, 3, none⟩ = some (.int .i64 h) ∧ w'.cell? ⟨w.heap.size, 4, none⟩ = some (.int .i64 i) ∧ w'.cell? ⟨w.heap.size, 5, none⟩ = some (.int .i64 s) ∧ w'.cell? ⟨w.heap.size, 6, none⟩ = some (.int .i64 n) ∧ w'.cell? ⟨w.heap.size, 7, none⟩ = some (.int .i64 (-Z)) ∧ Below w5.heap.size w5 w')
        (first
          | assumption
          | exact held8_next (by assumption) hz5 (by assumption)
          | exact ⟨f0, f1, f2, f3, f4, f5, f6, f7, drewN_below w5 1⟩)
        (first
          | (go_at_call 32; (with_reducible refine (rfig2_t (n := R1) F1.out (by omega) (by omega)).mono ?_); rintro e w' ⟨rfl, hbx⟩)
          | (go_at_call 32; (with_reducible refine (rfig2_t (n := R2) F2.out (by omega) (by omega)).mono ?_); rintro e w' ⟨rfl, hbx⟩))
      rename World => w6
      rename_i hS6
      have B6 := B5.trans ((held8_below hS6).mono B5.size)
      clear hS6
      go_wp2
      go_ret2
      refine ⟨?_, B6⟩
      show Ending.returned (.tuple #[.string (T3 ++ (⟨#[45]⟩ : ByteArray) ++ Q1 ++ (⟨#[58]⟩ : ByteArray) ++ Q2), .int .i64 0]) = _
      rw [KEYB.out, HZ.out]
      simp only [ByteArray.append_assoc]
  · obtain ⟨Q1, hQ1, o1⟩ := named_pad 2 (z / 60).toNat
    obtain ⟨Q2, hQ2, o2⟩ := named_pad 2 (z % 60).toNat
    have HZ := Lib.hid (show bytes (zoneText z) = (⟨#[43]⟩ : ByteArray) ++ (Q1 ++ ((⟨#[58]⟩ : ByteArray) ++ Q2)) by
      unfold zoneText
      rw [if_neg (by omega), if_neg (by omega), show z.natAbs / 60 = (z / 60).toNat by omega, show z.natAbs % 60 = (z % 60).toNat by omega, ← hQ1, ← hQ2, show (⟨#[43]⟩ : ByteArray) = bytes [43] from rfl, show (⟨#[58]⟩ : ByteArray) = bytes [58] from rfl]
      simp only [bytes_append])
    obtain ⟨R1, hR1, r1, r1'⟩ : ∃ R1 : Int, z / 60 = R1 ∧ 0 ≤ R1 ∧ R1 < 24 := ⟨_, rfl, by omega, by omega⟩
    obtain ⟨R2, hR2, r2, r2'⟩ : ∃ R2 : Int, z % 60 = R2 ∧ 0 ≤ R2 ∧ R2 < 60 := ⟨_, rfl, by omega, by omega⟩
    have p1 : IntKind.i64.wrap (z.tdiv 60) = R1 := by
      rw [Int.tdiv_eq_ediv_of_nonneg (by omega), wrap_i64 _ (by omega) (by omega), hR1]
    have p2 : z.tmod 60 = R2 := by
      rw [Int.tmod_eq_emod_of_nonneg (by omega), hR2]
    rw [hR1] at hQ1
    rw [hR2] at hQ2
    have F1 := Lib.hid hQ1
    have F2 := Lib.hid hQ2
    clear hQ1 hQ2 hR1 hR2
    by_cases h0 : n = 0
    · subst h0
      have KEYA := Lib.hid (show bytes (dateText y m d h i s 0 z) = T2 ++ bytes (zoneText z) by rw [KEY.out, show bytes (nanoText 0) = ByteArray.empty from rfl, ByteArray.empty_append])
      have d1 : ¬ 9223372036854775807 < T2.size + 1 := by omega
      have d2 : ¬ 9223372036854775807 < T2.size + 1 + Q1.size := by omega
      have d3 : ¬ 9223372036854775807 < T2.size + 1 + Q1.size + 1 := by omega
      have d4 : ¬ 9223372036854775807 < T2.size + 1 + Q1.size + 1 + Q2.size := by omega
      go_wp2_with fail
      go_region_held3 (fun w' => w'.cell? ⟨w.heap.size, 0, none⟩ = some (.int .i64 y) ∧ w'.cell? ⟨w.heap.size, 1, none⟩ = some (.int .i64 m) ∧ w'.cell? ⟨w.heap.size, 2, none⟩ = some (.int .i64 d) ∧ w'.cell? ⟨w.heap.size, 3, none⟩ = some (.int .i64 h) ∧ w'.cell? ⟨w.heap.size, 4, none⟩ = some (.int .i64 i) ∧ w'.cell? ⟨w.heap.size, 5, none⟩ = some (.int .i64 s) ∧ w'.cell? ⟨w.heap.size, 6, none⟩ = some (.int .i64 0) ∧ w'.cell? ⟨w.heap.size, 7, none⟩ = some (.int .i64 z) ∧ Below w4.heap.size w4 w')
        (first
          | assumption
          | exact held8_next (by assumption) hz4 (by assumption)
          | exact ⟨g0, g1, g2, g3, g4, g5, g6, g7, drewN_below w4 1⟩)
        (first
          | (go_at_call 32; (with_reducible refine (rfig2_t (n := R1) F1.out (by omega) (by omega)).mono ?_); rintro e w' ⟨rfl, hbx⟩)
          | (go_at_call 32; (with_reducible refine (rfig2_t (n := R2) F2.out (by omega) (by omega)).mono ?_); rintro e w' ⟨rfl, hbx⟩))
      rename World => w6
      rename_i hS6
      have B6 := B4.trans ((held8_below hS6).mono B4.size)
      clear hS6
      go_wp2
      go_ret2
      refine ⟨?_, B6⟩
      show Ending.returned (.tuple #[.string (T2 ++ (⟨#[43]⟩ : ByteArray) ++ Q1 ++ (⟨#[58]⟩ : ByteArray) ++ Q2), .int .i64 0]) = _
      rw [KEYA.out, HZ.out]
      simp only [ByteArray.append_assoc]
    · have hn0 : 0 < n := by omega
      have c7 : ¬ 9223372036854775807 < T2.size + 1 := by omega
      have c8 : ¬ 9223372036854775807 < T2.size + 1 + A7.size := by omega
      clear h0
      go_wp2_with fail
      refine (rfig6_t E7.out (by omega) (by omega)).mono ?_
      rintro e w5 ⟨rfl, hb5⟩
      obtain ⟨hc5, hf5⟩ := bcell hb5
      have B5 := B4.trans (hb5.mono B4.size)
      have hz5 : w.heap.size < w5.heap.size := Nat.lt_of_lt_of_le hz4 hb5.size
      have hF : w5.cell? ⟨w.heap.size, 0, none⟩ = some (.int .i64 y) ∧ w5.cell? ⟨w.heap.size, 1, none⟩ = some (.int .i64 m) ∧ w5.cell? ⟨w.heap.size, 2, none⟩ = some (.int .i64 d) ∧ w5.cell? ⟨w.heap.size, 3, none⟩ = some (.int .i64 h) ∧ w5.cell? ⟨w.heap.size, 4, none⟩ = some (.int .i64 i) ∧ w5.cell? ⟨w.heap.size, 5, none⟩ = some (.int .i64 s) ∧ w5.cell? ⟨w.heap.size, 6, none⟩ = some (.int .i64 n) ∧ w5.cell? ⟨w.heap.size, 7, none⟩ = some (.int .i64 z) := by simp [go_sem, *]
      obtain ⟨f0, f1, f2, f3, f4, f5, f6, f7⟩ := hF
      obtain ⟨T3, hT3⟩ : ∃ T3, T2 ++ (⟨#[46]⟩ : ByteArray) ++ A7 = T3 := ⟨_, rfl⟩
      have t3 : T3.size ≤ 26 := by rw [← hT3]; simp only [ByteArray.size_append, show (⟨#[46]⟩ : ByteArray).size = 1 from rfl]; omega
      have KEYB := Lib.hid (show bytes (dateText y m d h i s n z) = T3 ++ bytes (zoneText z) by
        rw [KEY.out, ← hT3]
        unfold nanoText
        rw [if_neg (by omega), ← bytes_append, show n.toNat / 1000 = (n / 1000).toNat by omega, E7.out]
        simp only [ByteArray.append_assoc]
        rfl)
      clear hc5 hf5 hb5
      have d1 : ¬ 9223372036854775807 < T3.size + 1 := by omega
      have d2 : ¬ 9223372036854775807 < T3.size + 1 + Q1.size := by omega
      have d3 : ¬ 9223372036854775807 < T3.size + 1 + Q1.size + 1 := by omega
      have d4 : ¬ 9223372036854775807 < T3.size + 1 + Q1.size + 1 + Q2.size := by omega
      go_wp2_with fail
      clear hT3 c7 c8
      go_region_held3 (fun w' => w'.cell? ⟨w.heap.size, 0, none⟩ = some (.int .i64 y) ∧ w'.cell? ⟨w.heap.size, 1, none⟩ = some (.int .i64 m) ∧ w'.cell? ⟨w.heap.size, 2, none⟩ = some (.int .i64 d) ∧ w'.cell? ⟨w.heap.size, 3, none⟩ = some (.int .i64 h) ∧ w'.cell? ⟨w.heap.size, 4, none⟩ = some (.int .i64 i) ∧ w'.cell? ⟨w.heap.size, 5, none⟩ = some (.int .i64 s) ∧ w'.cell? ⟨w.heap.size, 6, none⟩ = some (.int .i64 n) ∧ w'.cell? ⟨w.heap.size, 7, none⟩ = some (.int .i64 z) ∧ Below w5.heap.size w5 w')
        (first
          | assumption
          | exact held8_next (by assumption) hz5 (by assumption)
          | exact ⟨f0, f1, f2, f3, f4, f5, f6, f7, drewN_below w5 1⟩)
        (first
          | (go_at_call 32; (with_reducible refine (rfig2_t (n := R1) F1.out (by omega) (by omega)).mono ?_); rintro e w' ⟨rfl, hbx⟩)
          | (go_at_call 32; (with_reducible refine (rfig2_t (n := R2) F2.out (by omega) (by omega)).mono ?_); rintro e w' ⟨rfl, hbx⟩))
      rename World => w6
      rename_i hS6
      have B6 := B5.trans ((held8_below hS6).mono B5.size)
      clear hS6
      go_wp2
      go_ret2
      refine ⟨?_, B6⟩
      show Ending.returned (.tuple #[.string (T3 ++ (⟨#[43]⟩ : ByteArray) ++ Q1 ++ (⟨#[58]⟩ : ByteArray) ++ Q2), .int .i64 0]) = _
      rw [KEYB.out, HZ.out]
      simp only [ByteArray.append_assoc]
end Go.Proofs.YtameffdjjcpbkaaDoor
