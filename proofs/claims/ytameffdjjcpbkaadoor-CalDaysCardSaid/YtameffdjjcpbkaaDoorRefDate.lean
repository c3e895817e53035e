/- What the document's own answer for the date of nanoseconds is. All memory that was there stays. No conditions. -/
import Derived.Test.YtameffdjjcpbkaaDoorRefDays
import Derived.Test.YtameffdjjcpbkaaDoorDate
namespace Go.Proofs.YtameffdjjcpbkaaDoor
open Go.ChangeShapes Go.WideShapes Go.ChangeAt Go.RowKit

theorem rlow_right : rightB 1700 1 1 0 0 0 0 0 = true := by decide
theorem rhigh_right : rightB 2250 12 31 23 59 59 999999000 0 = true := by decide
theorem rlow_nanos : nanosI 1700 1 1 0 0 0 0 0 = -8520336000000000000 := by decide
theorem rhigh_nanos : nanosI 2250 12 31 23 59 59 999999000 0 = 8867491199999999000 := by decide
/-- What left nanoseconds of a day make. -/
theorem rdate_right {L y m d : Int} (h1 : 1700 ≤ y) (h2 : y ≤ 2250) (h3 : 1 ≤ d) (h4 : d ≤ lenI y m) (l1 : 0 ≤ L) (l2 : L < 86400000000000) :
    rightB y m d (L / 3600000000000) (L / 60000000000 % 60) (L / 1000000000 % 60) (L / 1000 % 1000000 * 1000) 0 = true :=
  (right_iff ..).2 ⟨⟨h1, h2⟩, ⟨h3, h4⟩, by omega⟩
theorem rdate_nanos {N L y m d : Int} (hN : N = daysI y m d * 86400000000000 + L) :
    nanosI y m d (L / 3600000000000) (L / 60000000000 % 60) (L / 1000000000 % 60) (L / 1000 % 1000000 * 1000) 0 = N - N % 1000 := by
  unfold nanosI
  generalize daysI y m d = D at hN ⊢
  omega
theorem u64_in (x : Int) (h1 : 0 ≤ x) (h2 : x < 18446744073709551616) : IntKind.u64.wrap (wrap64 x) = x := by
  have e : IntKind.u64.wrap (wrap64 x) = (wrap64 x) % 18446744073709551616 := rfl
  have e2 : wrap64 x = (x + 9223372036854775808) % 18446744073709551616 - 9223372036854775808 := by unfold wrap64; rfl
  rw [e, e2]
  omega
set_option maxHeartbeats 4000000 in
set_option maxRecDepth 100000 in
theorem rdate_mid (n : Int) (w : World) (h1 : -8520336000000000000 ≤ n) (h2 : n ≤ 8867491199999999000) : Calls Tryd.prog 21 #[.int .i64 n] w (DateAns n w) := by
  have HW := Lib.hid (u64_in (n + 8520336000000000000) (by omega) (by omega))
  have hb1 : Below w.heap.size w (w.alloc (.cells #[.int .i64 0, .int .i64 0, .int .i64 0, .int .i64 0, .int .i64 0, .int .i64 0, .int .i64 0, .int .i64 0] 23)) := (Below.refl _ _).alloc (Nat.le_refl _) _
  have HL := Lib.hid rlow_nanos
  have HH := Lib.hid rhigh_nanos
  go_enter Tryd.func21, Tryd.ntmps21
  go_wp2_with fail
  refine (rnanos_yes _ _ _ _ _ _ _ _ _ rlow_right).mono ?_
  rintro e w2 ⟨rfl, hb2⟩
  have B2 : Below w.heap.size w w2 := hb1.trans (hb2.mono (by simp))
  obtain ⟨hc2, hf2⟩ := bcell hb2
  have hz2 : w.heap.size < w2.heap.size := by have := hb2.size; simp at this; omega
  rw [HL.out]
  clear hb1 hb2 HL
  go_wp2_with fail
  refine (rnanos_yes _ _ _ _ _ _ _ _ _ rhigh_right).mono ?_
  rintro e w3 ⟨rfl, hb3⟩
  have B3 : Below w.heap.size w w3 := B2.trans (hb3.mono B2.size)
  obtain ⟨hc3, hf3⟩ := bcell hb3
  have hz3 : w.heap.size < w3.heap.size := by have := hb3.size; omega
  rw [HH.out]
  clear hb3 HH B2
  go_wp2
  rw [HW.out]
  obtain ⟨X, hX⟩ : ∃ X, X = n + 8520336000000000000 := ⟨_, rfl⟩
  have x1 : 0 ≤ X := by omega
  have x2 : X < 17387827200000000000 := by omega
  rw [← hX]
  have HC := Lib.hid (show clamp n - clamp n % 1000 = (X + -8520336000000000000) - (X + -8520336000000000000) % 1000 by
    rw [show clamp n = X + -8520336000000000000 by unfold clamp; rw [if_neg (by omega), if_neg (by omega)]; omega])
  clear hX HW
  go_loopw [7] (fun t wr => ∃ Y : Int, 1700 ≤ Y ∧ Y ≤ 2250 ∧ 0 ≤ X - (dby Y - 620547) * 86400000000000 ∧ t = .int .u64 (X - (dby Y - 620547) * 86400000000000) ∧
      wr = w3.alloc (.cells #[.int .i64 Y, .int .i64 1, .int .i64 1, .int .i64 0, .int .i64 0, .int .i64 0, .int .i64 0, .int .i64 0] 23)) (fun t _ => (intOf t).toNat)
  case atStart => exact ⟨1700, by omega, by omega, by rw [dby_1700]; omega, by rw [dby_1700]; simp, rfl⟩
  case round =>
    obtain ⟨Y, Y1, Y2, R0, rfl, rfl⟩ := hrel
    obtain ⟨R, hR⟩ : ∃ R, R = X - (dby Y - 620547) * 86400000000000 := ⟨_, rfl⟩
    have HR := Lib.hid hR
    rw [← hR] at R0 ⊢
    have rle : R ≤ X := by have := dby_mono 1700 Y Y1; rw [dby_1700] at this; omega
    have lb := lenI_bd Y 2
    have HT := Lib.hid (lenI_two Y)
    have HS := Lib.hid (dby_succ Y)
    clear hR
    by_cases hge : (337 + lenI Y 2) * 86400000000000 ≤ R
    · have hlt : Y < 2250 := by
        by_cases k : Y < 2250
        · exact k
        · obtain rfl : Y = 2250 := by omega
          have e1 := HR.out
          have e2 := HT.out
          have e3 := HS.out
          have e4 : (2250 : Int) + 1 = 2251 := rfl
          rw [e4, dby_2251] at e3
          omega
      go_wp2_with (go_at_call 17; refine (rlength_any _ _ _).mono ?_; rintro e w' ⟨rfl, rfl⟩)
      go_roundw
      case rel => exact ⟨Y + 1, by omega, by omega, by have e1 := HR.out; have e2 := HT.out; have e3 := HS.out; rw [e3]; omega, by have e1 := HR.out; have e2 := HT.out; have e3 := HS.out; rw [e3]; congr 1; omega, rfl⟩
      case measure => simp [intOf]; omega
    · have hyear : R < (365 + lp Y) * 86400000000000 := by have e2 := HT.out; omega
      go_wp2_with (go_at_call 17; refine (rlength_any _ _ _).mono ?_; rintro e w' ⟨rfl, rfl⟩)
      clear HS HT hge lb
      go_loopw [7] (fun t wr => ∃ M : Int, 1 ≤ M ∧ M ≤ 12 ∧ 0 ≤ R - cum Y M * 86400000000000 ∧ t = .int .u64 (R - cum Y M * 86400000000000) ∧
          wr = w3.alloc (.cells #[.int .i64 Y, .int .i64 M, .int .i64 1, .int .i64 0, .int .i64 0, .int .i64 0, .int .i64 0, .int .i64 0] 23)) (fun t _ => (intOf t).toNat)
      case atStart => exact ⟨1, by omega, by omega, by rw [cum_one]; omega, by rw [cum_one]; simp, rfl⟩
      case round =>
        obtain ⟨M, M1, M2, S0, rfl, rfl⟩ := hrel
        obtain ⟨S, hS⟩ : ∃ S, S = R - cum Y M * 86400000000000 := ⟨_, rfl⟩
        have cb := cum_bd Y M M1 M2
        have sle : S ≤ X := by omega
        have HSS := Lib.hid hS
        rw [← hS] at S0 ⊢
        have lb := lenI_bd Y M
        have lp0 := lenI_pos Y M M1 M2
        have CS := Lib.hid (cum_succ Y M M1 M2)
        clear hS
        by_cases hge : lenI Y M * 86400000000000 ≤ S
        · have hlt : M < 12 := by
            by_cases k : M < 12
            · exact k
            · obtain rfl : M = 12 := by omega
              have e1 := HSS.out
              have e3 := CS.out
              have e4 : (12 : Int) + 1 = 13 := rfl
              rw [e4, cum_13] at e3
              omega
          go_wp2_with (go_at_call 17; refine (rlength_any _ _ _).mono ?_; rintro e w' ⟨rfl, rfl⟩)
          go_roundw
          case rel => exact ⟨M + 1, by omega, by omega, by have e1 := HSS.out; rw [CS.out]; omega, by have e1 := HSS.out; rw [CS.out]; congr 1; omega, rfl⟩
          case measure => simp [intOf]; omega
        · have hmonth : S < lenI Y M * 86400000000000 := by omega
          go_wp2_with (go_at_call 17; refine (rlength_any _ _ _).mono ?_; rintro e w' ⟨rfl, rfl⟩)
          clear CS hge lp0
          go_loopw [7] (fun t wr => ∃ d : Int, 1 ≤ d ∧ d ≤ lenI Y M ∧ 0 ≤ S - (d - 1) * 86400000000000 ∧ t = .int .u64 (S - (d - 1) * 86400000000000) ∧
              wr = w3.alloc (.cells #[.int .i64 Y, .int .i64 M, .int .i64 d, .int .i64 0, .int .i64 0, .int .i64 0, .int .i64 0, .int .i64 0] 23)) (fun t _ => (intOf t).toNat)
          case atStart => exact ⟨1, by omega, by omega, by omega, by simp, rfl⟩
          case round =>
            obtain ⟨d, d1, d2, L0, rfl, rfl⟩ := hrel
            obtain ⟨L, hL⟩ : ∃ L, L = S - (d - 1) * 86400000000000 := ⟨_, rfl⟩
            have lle : L ≤ X := by omega
            have HLL := Lib.hid hL
            rw [← hL] at L0 ⊢
            clear hL
            by_cases hge : 86400000000000 ≤ L
            · go_wp2
              go_roundw
              case rel => exact ⟨d + 1, by omega, by have := HLL.out; omega, by have := HLL.out; omega, by have := HLL.out; congr 1; omega, rfl⟩
              case measure => simp [intOf]; omega
            · go_wp2
              obtain ⟨hNN, hLn⟩ : (X + -8520336000000000000 = daysI Y M d * 86400000000000 + L) ∧ L < 86400000000000 := by
                have e1 := HR.out
                have e2 := HSS.out
                have e3 := HLL.out
                refine ⟨?_, by omega⟩
                unfold daysI
                omega
              refine bodyPost_ret (v := .agg #[.int .i64 Y, .int .i64 M, .int .i64 d, .int .i64 (L / 3600000000000), .int .i64 (L / 60000000000 % 60), .int .i64 (L / 1000000000 % 60), .int .i64 (L / 1000 % 1000000 * 1000), .int .i64 0])
                (by simp [results, Tryd.results21, go_sem, hc3, hz3, hc2, hz2]) rfl
                ⟨Y, M, d, _, _, _, _, rfl, ⟨rdate_right Y1 Y2 d1 d2 L0 hLn, by rw [HC.out]; exact rdate_nanos hNN⟩, ?_⟩
              have hle := Nat.le_refl w.heap.size
              exact ((((((((B3.setCell (p := ⟨w.heap.size, 0, none⟩) hle _).setCell (p := ⟨w.heap.size, 1, none⟩) hle _).setCell (p := ⟨w.heap.size, 2, none⟩) hle _).setCell (p := ⟨w.heap.size, 3, none⟩) hle _).setCell (p := ⟨w.heap.size, 4, none⟩) hle _).setCell (p := ⟨w.heap.size, 5, none⟩) hle _).setCell (p := ⟨w.heap.size, 6, none⟩) hle _).setCell (p := ⟨w.heap.size, 7, none⟩) hle _).alloc (by simp; omega) _
set_option maxHeartbeats 4000000 in
set_option maxRecDepth 100000 in
theorem rdate_low (n : Int) (w : World) (h : n < -8520336000000000000) : Calls Tryd.prog 21 #[.int .i64 n] w (DateAns n w) := by
  have hb1 : Below w.heap.size w (w.alloc (.cells #[.int .i64 0, .int .i64 0, .int .i64 0, .int .i64 0, .int .i64 0, .int .i64 0, .int .i64 0, .int .i64 0] 23)) := (Below.refl _ _).alloc (Nat.le_refl _) _
  have HL := Lib.hid rlow_nanos
  have HH := Lib.hid rhigh_nanos
  go_enter Tryd.func21, Tryd.ntmps21
  go_wp2_with fail
  refine (rnanos_yes _ _ _ _ _ _ _ _ _ rlow_right).mono ?_
  rintro e w2 ⟨rfl, hb2⟩
  have B2 : Below w.heap.size w w2 := hb1.trans (hb2.mono (by simp))
  obtain ⟨hc2, hf2⟩ := bcell hb2
  have hz2 : w.heap.size < w2.heap.size := by have := hb2.size; simp at this; omega
  rw [HL.out]
  clear hb1 hb2 HL
  go_wp2_with fail
  refine (rnanos_yes _ _ _ _ _ _ _ _ _ rhigh_right).mono ?_
  rintro e w3 ⟨rfl, hb3⟩
  have B3 : Below w.heap.size w w3 := B2.trans (hb3.mono B2.size)
  obtain ⟨hc3, hf3⟩ := bcell hb3
  have hz3 : w.heap.size < w3.heap.size := by have := hb3.size; omega
  rw [HH.out]
  clear hb3 HH B2
  go_wp2
  obtain ⟨X, hX⟩ : ∃ X : Int, X = 0 := ⟨_, rfl⟩
  have x1 : 0 ≤ X := by omega
  have x2 : X < 17387827200000000000 := by omega
  have HC := Lib.hid (show clamp n - clamp n % 1000 = (X + -8520336000000000000) - (X + -8520336000000000000) % 1000 by
    rw [show clamp n = X + -8520336000000000000 by unfold clamp; rw [if_pos (by omega)]; omega])
  have HX := Lib.hid hX
  clear hX
  go_loopw [7] (fun t wr => ∃ Y : Int, 1700 ≤ Y ∧ Y ≤ 2250 ∧ 0 ≤ X - (dby Y - 620547) * 86400000000000 ∧ t = .int .u64 (X - (dby Y - 620547) * 86400000000000) ∧
      wr = w3.alloc (.cells #[.int .i64 Y, .int .i64 1, .int .i64 1, .int .i64 0, .int .i64 0, .int .i64 0, .int .i64 0, .int .i64 0] 23)) (fun t _ => (intOf t).toNat)
  case atStart => exact ⟨1700, by omega, by omega, by rw [dby_1700]; omega, by rw [dby_1700, HX.out]; rfl, rfl⟩
  case round =>
    obtain ⟨Y, Y1, Y2, R0, rfl, rfl⟩ := hrel
    obtain ⟨R, hR⟩ : ∃ R, R = X - (dby Y - 620547) * 86400000000000 := ⟨_, rfl⟩
    have HR := Lib.hid hR
    rw [← hR] at R0 ⊢
    have rle : R ≤ X := by have := dby_mono 1700 Y Y1; rw [dby_1700] at this; omega
    have lb := lenI_bd Y 2
    have HT := Lib.hid (lenI_two Y)
    have HS := Lib.hid (dby_succ Y)
    clear hR
    by_cases hge : (337 + lenI Y 2) * 86400000000000 ≤ R
    · have hlt : Y < 2250 := by
        by_cases k : Y < 2250
        · exact k
        · obtain rfl : Y = 2250 := by omega
          have e1 := HR.out
          have e2 := HT.out
          have e3 := HS.out
          have e4 : (2250 : Int) + 1 = 2251 := rfl
          rw [e4, dby_2251] at e3
          omega
      go_wp2_with (go_at_call 17; refine (rlength_any _ _ _).mono ?_; rintro e w' ⟨rfl, rfl⟩)
      go_roundw
      case rel => exact ⟨Y + 1, by omega, by omega, by have e1 := HR.out; have e2 := HT.out; have e3 := HS.out; rw [e3]; omega, by have e1 := HR.out; have e2 := HT.out; have e3 := HS.out; rw [e3]; congr 1; omega, rfl⟩
      case measure => simp [intOf]; omega
    · have hyear : R < (365 + lp Y) * 86400000000000 := by have e2 := HT.out; omega
      go_wp2_with (go_at_call 17; refine (rlength_any _ _ _).mono ?_; rintro e w' ⟨rfl, rfl⟩)
      clear HS HT hge lb
      go_loopw [7] (fun t wr => ∃ M : Int, 1 ≤ M ∧ M ≤ 12 ∧ 0 ≤ R - cum Y M * 86400000000000 ∧ t = .int .u64 (R - cum Y M * 86400000000000) ∧
          wr = w3.alloc (.cells #[.int .i64 Y, .int .i64 M, .int .i64 1, .int .i64 0, .int .i64 0, .int .i64 0, .int .i64 0, .int .i64 0] 23)) (fun t _ => (intOf t).toNat)
      case atStart => exact ⟨1, by omega, by omega, by rw [cum_one]; omega, by rw [cum_one]; simp, rfl⟩
      case round =>
        obtain ⟨M, M1, M2, S0, rfl, rfl⟩ := hrel
        obtain ⟨S, hS⟩ : ∃ S, S = R - cum Y M * 86400000000000 := ⟨_, rfl⟩
        have cb := cum_bd Y M M1 M2
        have sle : S ≤ X := by omega
        have HSS := Lib.hid hS
        rw [← hS] at S0 ⊢
        have lb := lenI_bd Y M
        have lp0 := lenI_pos Y M M1 M2
        have CS := Lib.hid (cum_succ Y M M1 M2)
        clear hS
        by_cases hge : lenI Y M * 86400000000000 ≤ S
        · have hlt : M < 12 := by
            by_cases k : M < 12
            · exact k
            · obtain rfl : M = 12 := by omega
              have e1 := HSS.out
              have e3 := CS.out
              have e4 : (12 : Int) + 1 = 13 := rfl
              rw [e4, cum_13] at e3
              omega
          go_wp2_with (go_at_call 17; refine (rlength_any _ _ _).mono ?_; rintro e w' ⟨rfl, rfl⟩)
          go_roundw
          case rel => exact ⟨M + 1, by omega, by omega, by have e1 := HSS.out; rw [CS.out]; omega, by have e1 := HSS.out; rw [CS.out]; congr 1; omega, rfl⟩
          case measure => simp [intOf]; omega
        · have hmonth : S < lenI Y M * 86400000000000 := by omega
          go_wp2_with (go_at_call 17; refine (rlength_any _ _ _).mono ?_; rintro e w' ⟨rfl, rfl⟩)
          clear CS hge lp0
          go_loopw [7] (fun t wr => ∃ d : Int, 1 ≤ d ∧ d ≤ lenI Y M ∧ 0 ≤ S - (d - 1) * 86400000000000 ∧ t = .int .u64 (S - (d - 1) * 86400000000000) ∧
              wr = w3.alloc (.cells #[.int .i64 Y, .int .i64 M, .int .i64 d, .int .i64 0, .int .i64 0, .int .i64 0, .int .i64 0, .int .i64 0] 23)) (fun t _ => (intOf t).toNat)
          case atStart => exact ⟨1, by omega, by omega, by omega, by simp, rfl⟩
          case round =>
            obtain ⟨d, d1, d2, L0, rfl, rfl⟩ := hrel
            obtain ⟨L, hL⟩ : ∃ L, L = S - (d - 1) * 86400000000000 := ⟨_, rfl⟩
            have lle : L ≤ X := by omega
            have HLL := Lib.hid hL
            rw [← hL] at L0 ⊢
            clear hL
            by_cases hge : 86400000000000 ≤ L
            · go_wp2
              go_roundw
              case rel => exact ⟨d + 1, by omega, by have := HLL.out; omega, by have := HLL.out; omega, by have := HLL.out; congr 1; omega, rfl⟩
              case measure => simp [intOf]; omega
            · go_wp2
              obtain ⟨hNN, hLn⟩ : (X + -8520336000000000000 = daysI Y M d * 86400000000000 + L) ∧ L < 86400000000000 := by
                have e1 := HR.out
                have e2 := HSS.out
                have e3 := HLL.out
                refine ⟨?_, by omega⟩
                unfold daysI
                omega
              refine bodyPost_ret (v := .agg #[.int .i64 Y, .int .i64 M, .int .i64 d, .int .i64 (L / 3600000000000), .int .i64 (L / 60000000000 % 60), .int .i64 (L / 1000000000 % 60), .int .i64 (L / 1000 % 1000000 * 1000), .int .i64 0])
                (by simp [results, Tryd.results21, go_sem, hc3, hz3, hc2, hz2]) rfl
                ⟨Y, M, d, _, _, _, _, rfl, ⟨rdate_right Y1 Y2 d1 d2 L0 hLn, by rw [HC.out]; exact rdate_nanos hNN⟩, ?_⟩
              have hle := Nat.le_refl w.heap.size
              exact ((((((((B3.setCell (p := ⟨w.heap.size, 0, none⟩) hle _).setCell (p := ⟨w.heap.size, 1, none⟩) hle _).setCell (p := ⟨w.heap.size, 2, none⟩) hle _).setCell (p := ⟨w.heap.size, 3, none⟩) hle _).setCell (p := ⟨w.heap.size, 4, none⟩) hle _).setCell (p := ⟨w.heap.size, 5, none⟩) hle _).setCell (p := ⟨w.heap.size, 6, none⟩) hle _).setCell (p := ⟨w.heap.size, 7, none⟩) hle _).alloc (by simp; omega) _
set_option maxHeartbeats 4000000 in
set_option maxRecDepth 100000 in
theorem rdate_high (n : Int) (w : World) (h : 8867491199999999000 < n) : Calls Tryd.prog 21 #[.int .i64 n] w (DateAns n w) := by
  have hb1 : Below w.heap.size w (w.alloc (.cells #[.int .i64 0, .int .i64 0, .int .i64 0, .int .i64 0, .int .i64 0, .int .i64 0, .int .i64 0, .int .i64 0] 23)) := (Below.refl _ _).alloc (Nat.le_refl _) _
  have HL := Lib.hid rlow_nanos
  have HH := Lib.hid rhigh_nanos
  go_enter Tryd.func21, Tryd.ntmps21
  go_wp2_with fail
  refine (rnanos_yes _ _ _ _ _ _ _ _ _ rlow_right).mono ?_
  rintro e w2 ⟨rfl, hb2⟩
  have B2 : Below w.heap.size w w2 := hb1.trans (hb2.mono (by simp))
  obtain ⟨hc2, hf2⟩ := bcell hb2
  have hz2 : w.heap.size < w2.heap.size := by have := hb2.size; simp at this; omega
  rw [HL.out]
  clear hb1 hb2 HL
  go_wp2_with fail
  refine (rnanos_yes _ _ _ _ _ _ _ _ _ rhigh_right).mono ?_
  rintro e w3 ⟨rfl, hb3⟩
  have B3 : Below w.heap.size w w3 := B2.trans (hb3.mono B2.size)
  obtain ⟨hc3, hf3⟩ := bcell hb3
  have hz3 : w.heap.size < w3.heap.size := by have := hb3.size; omega
  rw [HH.out]
  clear hb3 HH B2
  go_wp2
  obtain ⟨X, hX⟩ : ∃ X : Int, X = 17387827199999999000 := ⟨_, rfl⟩
  have x1 : 0 ≤ X := by omega
  have x2 : X < 17387827200000000000 := by omega
  have HC := Lib.hid (show clamp n - clamp n % 1000 = (X + -8520336000000000000) - (X + -8520336000000000000) % 1000 by
    unfold clamp; rw [if_neg (by omega)]; split <;> omega)
  have HX := Lib.hid hX
  clear hX
  go_loopw [7] (fun t wr => ∃ Y : Int, 1700 ≤ Y ∧ Y ≤ 2250 ∧ 0 ≤ X - (dby Y - 620547) * 86400000000000 ∧ t = .int .u64 (X - (dby Y - 620547) * 86400000000000) ∧
      wr = w3.alloc (.cells #[.int .i64 Y, .int .i64 1, .int .i64 1, .int .i64 0, .int .i64 0, .int .i64 0, .int .i64 0, .int .i64 0] 23)) (fun t _ => (intOf t).toNat)
  case atStart => exact ⟨1700, by omega, by omega, by rw [dby_1700]; omega, by rw [dby_1700, HX.out, u64_in _ (by omega) (by omega)]; rfl, rfl⟩
  case round =>
    obtain ⟨Y, Y1, Y2, R0, rfl, rfl⟩ := hrel
    obtain ⟨R, hR⟩ : ∃ R, R = X - (dby Y - 620547) * 86400000000000 := ⟨_, rfl⟩
    have HR := Lib.hid hR
    rw [← hR] at R0 ⊢
    have rle : R ≤ X := by have := dby_mono 1700 Y Y1; rw [dby_1700] at this; omega
    have lb := lenI_bd Y 2
    have HT := Lib.hid (lenI_two Y)
    have HS := Lib.hid (dby_succ Y)
    clear hR
    by_cases hge : (337 + lenI Y 2) * 86400000000000 ≤ R
    · have hlt : Y < 2250 := by
        by_cases k : Y < 2250
        · exact k
        · obtain rfl : Y = 2250 := by omega
          have e1 := HR.out
          have e2 := HT.out
          have e3 := HS.out
          have e4 : (2250 : Int) + 1 = 2251 := rfl
          rw [e4, dby_2251] at e3
          omega
      go_wp2_with (go_at_call 17; refine (rlength_any _ _ _).mono ?_; rintro e w' ⟨rfl, rfl⟩)
      go_roundw
      case rel => exact ⟨Y + 1, by omega, by omega, by have e1 := HR.out; have e2 := HT.out; have e3 := HS.out; rw [e3]; omega, by have e1 := HR.out; have e2 := HT.out; have e3 := HS.out; rw [e3]; congr 1; omega, rfl⟩
      case measure => simp [intOf]; omega
    · have hyear : R < (365 + lp Y) * 86400000000000 := by have e2 := HT.out; omega
      go_wp2_with (go_at_call 17; refine (rlength_any _ _ _).mono ?_; rintro e w' ⟨rfl, rfl⟩)
      clear HS HT hge lb
      go_loopw [7] (fun t wr => ∃ M : Int, 1 ≤ M ∧ M ≤ 12 ∧ 0 ≤ R - cum Y M * 86400000000000 ∧ t = .int .u64 (R - cum Y M * 86400000000000) ∧
          wr = w3.alloc (.cells #[.int .i64 Y, .int .i64 M, .int .i64 1, .int .i64 0, .int .i64 0, .int .i64 0, .int .i64 0, .int .i64 0] 23)) (fun t _ => (intOf t).toNat)
      case atStart => exact ⟨1, by omega, by omega, by rw [cum_one]; omega, by rw [cum_one]; simp, rfl⟩
      case round =>
        obtain ⟨M, M1, M2, S0, rfl, rfl⟩ := hrel
        obtain ⟨S, hS⟩ : ∃ S, S = R - cum Y M * 86400000000000 := ⟨_, rfl⟩
        have cb := cum_bd Y M M1 M2
        have sle : S ≤ X := by omega
        have HSS := Lib.hid hS
        rw [← hS] at S0 ⊢
        have lb := lenI_bd Y M
        have lp0 := lenI_pos Y M M1 M2
        have CS := Lib.hid (cum_succ Y M M1 M2)
        clear hS
        by_cases hge : lenI Y M * 86400000000000 ≤ S
        · have hlt : M < 12 := by
            by_cases k : M < 12
            · exact k
            · obtain rfl : M = 12 := by omega
              have e1 := HSS.out
              have e3 := CS.out
              have e4 : (12 : Int) + 1 = 13 := rfl
              rw [e4, cum_13] at e3
              omega
          go_wp2_with (go_at_call 17; refine (rlength_any _ _ _).mono ?_; rintro e w' ⟨rfl, rfl⟩)
          go_roundw
          case rel => exact ⟨M + 1, by omega, by omega, by have e1 := HSS.out; rw [CS.out]; omega, by have e1 := HSS.out; rw [CS.out]; congr 1; omega, rfl⟩
          case measure => simp [intOf]; omega
        · have hmonth : S < lenI Y M * 86400000000000 := by omega
          go_wp2_with (go_at_call 17; refine (rlength_any _ _ _).mono ?_; rintro e w' ⟨rfl, rfl⟩)
          clear CS hge lp0
          go_loopw [7] (fun t wr => ∃ d : Int, 1 ≤ d ∧ d ≤ lenI Y M ∧ 0 ≤ S - (d - 1) * 86400000000000 ∧ t = .int .u64 (S - (d - 1) * 86400000000000) ∧
              wr = w3.alloc (.cells #[.int .i64 Y, .int .i64 M, .int .i64 d, .int .i64 0, .int .i64 0, .int .i64 0, .int .i64 0, .int .i64 0] 23)) (fun t _ => (intOf t).toNat)
          case atStart => exact ⟨1, by omega, by omega, by omega, by simp, rfl⟩
          case round =>
            obtain ⟨d, d1, d2, L0, rfl, rfl⟩ := hrel
            obtain ⟨L, hL⟩ : ∃ L, L = S - (d - 1) * 86400000000000 := ⟨_, rfl⟩
            have lle : L ≤ X := by omega
            have HLL := Lib.hid hL
            rw [← hL] at L0 ⊢
            clear hL
            by_cases hge : 86400000000000 ≤ L
            · go_wp2
              go_roundw
              case rel => exact ⟨d + 1, by omega, by have := HLL.out; omega, by have := HLL.out; omega, by have := HLL.out; congr 1; omega, rfl⟩
              case measure => simp [intOf]; omega
            · go_wp2
              obtain ⟨hNN, hLn⟩ : (X + -8520336000000000000 = daysI Y M d * 86400000000000 + L) ∧ L < 86400000000000 := by
                have e1 := HR.out
                have e2 := HSS.out
                have e3 := HLL.out
                refine ⟨?_, by omega⟩
                unfold daysI
                omega
              refine bodyPost_ret (v := .agg #[.int .i64 Y, .int .i64 M, .int .i64 d, .int .i64 (L / 3600000000000), .int .i64 (L / 60000000000 % 60), .int .i64 (L / 1000000000 % 60), .int .i64 (L / 1000 % 1000000 * 1000), .int .i64 0])
                (by simp [results, Tryd.results21, go_sem, hc3, hz3, hc2, hz2]) rfl
                ⟨Y, M, d, _, _, _, _, rfl, ⟨rdate_right Y1 Y2 d1 d2 L0 hLn, by rw [HC.out]; exact rdate_nanos hNN⟩, ?_⟩
              have hle := Nat.le_refl w.heap.size
              exact ((((((((B3.setCell (p := ⟨w.heap.size, 0, none⟩) hle _).setCell (p := ⟨w.heap.size, 1, none⟩) hle _).setCell (p := ⟨w.heap.size, 2, none⟩) hle _).setCell (p := ⟨w.heap.size, 3, none⟩) hle _).setCell (p := ⟨w.heap.size, 4, none⟩) hle _).setCell (p := ⟨w.heap.size, 5, none⟩) hle _).setCell (p := ⟨w.heap.size, 6, none⟩) hle _).setCell (p := ⟨w.heap.size, 7, none⟩) hle _).alloc (by simp; omega) _
theorem rdate_any (n : Int) (w : World) : Calls Tryd.prog 21 #[.int .i64 n] w (DateAns n w) := by
  by_cases h1 : n < -8520336000000000000
  · exact rdate_low n w h1
  · by_cases h2 : 8867491199999999000 < n
    · exact rdate_high n w h2
    · exact rdate_mid n w (by omega) (by omega)
end Go.Proofs.YtameffdjjcpbkaaDoor
