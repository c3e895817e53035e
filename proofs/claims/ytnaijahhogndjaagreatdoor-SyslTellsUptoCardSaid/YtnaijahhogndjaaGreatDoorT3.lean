/- The texts CalRefDate, Words, UtfLists, one behind the other. -/
import Derived.Test.YtnaijahhogndjaaGreatDoorT1
import Derived.Test.YtnaijahhogndjaaGreatDoorT2
import Derived.Lib.IndexAny
import Derived.Lib.Hide
import Derived.Lib.ValidLaws
/- What the document's own answer for the date of nanoseconds is. All memory that was there stays. No conditions. -/
namespace Go.Proofs.YtnaijahhogndjaaGreatDoor.Cal
open Go.ChangeShapes Go.WideShapes Go.ChangeAt Go.RowKit

theorem rlow_right : rightB 1700 1 1 0 0 0 0 0 = true := by decide
theorem rhigh_right : rightB 2250 12 31 23 59 59 999999000 0 = true := by decide
theorem rlow_nanos : nanosI 1700 1 1 0 0 0 0 0 = -8520336000000000000 := by decide
theorem rhigh_nanos : nanosI 2250 12 31 23 59 59 999999000 0 = 8867491199999999000 := by decide
/-- What left nanoseconds of a day make. -/
theorem rdate_right {L y m d : Int} (h1 : 1700 ≤ y) (h2 : y ≤ 2250) (h3 : 1 ≤ d) (h4 : d ≤ lenI y m) (l1 : 0 ≤ L) (l2 : L < 86400000000000) :
    rightB y m d (L / 3600000000000) (L / 60000000000 % 60) (L / 1000000000 % 60) (L / 1000 % 1000000 * 1000) 0 = true :=
  (right_iff ..).2 ⟨⟨h1, h2⟩, ⟨h3, h4⟩, by omega⟩
theorem rdate_nanos {N L y m d : Int} (hN : N = daysI y m d * 86400000000000 + L) :
    nanosI y m d (L / 3600000000000) (L / 60000000000 % 60) (L / 1000000000 % 60) (L / 1000 % 1000000 * 1000) 0 = N - N % 1000 := by
  unfold nanosI
  generalize daysI y m d = D at hN ⊢
  omega
theorem u64_in (x : Int) (h1 : 0 ≤ x) (h2 : x < 18446744073709551616) : IntKind.u64.wrap (wrap64 x) = x := by
  have e : IntKind.u64.wrap (wrap64 x) = (wrap64 x) % 18446744073709551616 := rfl
  have e2 : wrap64 x = (x + 9223372036854775808) % 18446744073709551616 - 9223372036854775808 := by unfold wrap64; rfl
  rw [e, e2]
  omega
set_option maxHeartbeats 4000000 in
set_option maxRecDepth 100000 in
theorem rdate_mid (n : Int) (w : World) (h1 : -8520336000000000000 ≤ n) (h2 : n ≤ 8867491199999999000) : Calls Tryz.prog 33 #[.int .i64 n] w (DateAns n w) := by
  have HW := Lib.hid (u64_in (n + 8520336000000000000) (by omega) (by omega))
  have hb1 : Below w.heap.size w (w.alloc (.cells #[.int .i64 0, .int .i64 0, .int .i64 0, .int .i64 0, .int .i64 0, .int .i64 0, .int .i64 0, .int .i64 0] 62)) := (Below.refl _ _).alloc (Nat.le_refl _) _
  have HL := Lib.hid rlow_nanos
  have HH := Lib.hid rhigh_nanos
  go_enter Tryz.func33, Tryz.ntmps33
  go_wp2_with fail
  refine (rnanos_yes _ _ _ _ _ _ _ _ _ rlow_right).mono ?_
  rintro e w2 ⟨rfl, hb2⟩
  have B2 : Below w.heap.size w w2 := hb1.trans (hb2.mono (by simp))
  obtain ⟨hc2, hf2⟩ := bcell hb2
  have hz2 : w.heap.size < w2.heap.size := by have := hb2.size; simp at this; omega
  rw [HL.out]
  clear hb1 hb2 HL
  go_wp2_with fail
  refine (rnanos_yes _ _ _ _ _ _ _ _ _ rhigh_right).mono ?_
  rintro e w3 ⟨rfl, hb3⟩
  have B3 : Below w.heap.size w w3 := B2.trans (hb3.mono B2.size)
  obtain ⟨hc3, hf3⟩ := bcell hb3
  have hz3 : w.heap.size < w3.heap.size := by have := hb3.size; omega
  rw [HH.out]
  clear hb3 HH B2
  go_wp2
  rw [HW.out]
  obtain ⟨X, hX⟩ : ∃ X, X = n + 8520336000000000000 := ⟨_, rfl⟩
  have x1 : 0 ≤ X := by omega
  have x2 : X < 17387827200000000000 := by omega
  rw [← hX]
  have HC := Lib.hid (show clamp n - clamp n % 1000 = (X + -8520336000000000000) - (X + -8520336000000000000) % 1000 by
    rw [show clamp n = X + -8520336000000000000 by unfold clamp; rw [if_neg (by omega), if_neg (by omega)]; omega])
  clear hX HW
  go_loopw [7] (fun t wr => ∃ Y : Int, 1700 ≤ Y ∧ Y ≤ 2250 ∧ 0 ≤ X - (dby Y - 620547) * 86400000000000 ∧ t = .int .u64 (X - (dby Y - 620547) * 86400000000000) ∧
      wr = w3.alloc (.cells #[.int .i64 Y, .int .i64 1, .int .i64 1, .int .i64 0, .int .i64 0, .int .i64 0, .int .i64 0, .int .i64 0] 62)) (fun t _ => (intOf t).toNat)
  case atStart => exact ⟨1700, by omega, by omega, by rw [dby_1700]; omega, by rw [dby_1700]; simp, rfl⟩
  case round =>
    obtain ⟨Y, Y1, Y2, R0, rfl, rfl⟩ := hrel
    obtain ⟨R, hR⟩ : ∃ R, R = X - (dby Y - 620547) * 86400000000000 := ⟨_, rfl⟩
    have HR := Lib.hid hR
    rw [← hR] at R0 ⊢
    have rle : R ≤ X := by have := dby_mono 1700 Y Y1; rw [dby_1700] at this; omega
    have lb := lenI_bd Y 2
    have HT := Lib.hid (lenI_two Y)
    have HS := Lib.hid (dby_succ Y)
    clear hR
    by_cases hge : (337 + lenI Y 2) * 86400000000000 ≤ R
    · have hlt : Y < 2250 := by
        by_cases k : Y < 2250
        · exact k
        · obtain rfl : Y = 2250 := by omega
          have e1 := HR.out
          have e2 := HT.out
          have e3 := HS.out
          have e4 : (2250 : Int) + 1 = 2251 := rfl
          rw [e4, dby_2251] at e3
          omega
      go_wp2_with (go_at_call 70; refine (rlength_any _ _ _).mono ?_; rintro e w' ⟨rfl, rfl⟩)
      go_roundw
      case rel => exact ⟨Y + 1, by omega, by omega, by have e1 := HR.out; have e2 := HT.out; have e3 := HS.out; rw [e3]; omega, by have e1 := HR.out; have e2 := HT.out; have e3 := HS.out; rw [e3]; congr 1; omega, rfl⟩
      case measure => simp [intOf]; omega
    · have hyear : R < (365 + lp Y) * 86400000000000 := by have e2 := HT.out; omega
      go_wp2_with (go_at_call 70; refine (rlength_any _ _ _).mono ?_; rintro e w' ⟨rfl, rfl⟩)
      clear HS HT hge lb
      go_loopw [7] (fun t wr => ∃ M : Int, 1 ≤ M ∧ M ≤ 12 ∧ 0 ≤ R - cum Y M * 86400000000000 ∧ t = .int .u64 (R - cum Y M * 86400000000000) ∧
          wr = w3.alloc (.cells #[.int .i64 Y, .int .i64 M, .int .i64 1, .int .i64 0, .int .i64 0, .int .i64 0, .int .i64 0, .int .i64 0] 62)) (fun t _ => (intOf t).toNat)
      case atStart => exact ⟨1, by omega, by omega, by rw [cum_one]; omega, by rw [cum_one]; simp, rfl⟩
      case round =>
        obtain ⟨M, M1, M2, S0, rfl, rfl⟩ := hrel
        obtain ⟨S, hS⟩ : ∃ S, S = R - cum Y M * 86400000000000 := ⟨_, rfl⟩
        have cb := cum_bd Y M M1 M2
        have sle : S ≤ X := by omega
        have HSS := Lib.hid hS
        rw [← hS] at S0 ⊢
        have lb := lenI_bd Y M
        have lp0 := lenI_pos Y M M1 M2
        have CS := Lib.hid (cum_succ Y M M1 M2)
        clear hS
        by_cases hge : lenI Y M * 86400000000000 ≤ S
        · have hlt : M < 12 := by
            by_cases k : M < 12
            · exact k
            · obtain rfl : M = 12 := by omega
              have e1 := HSS.out
              have e3 := CS.out
              have e4 : (12 : Int) + 1 = 13 := rfl
              rw [e4, cum_13] at e3
              omega
          go_wp2_with (go_at_call 70; refine (rlength_any _ _ _).mono ?_; rintro e w' ⟨rfl, rfl⟩)
          go_roundw
          case rel => exact ⟨M + 1, by omega, by omega, by have e1 := HSS.out; rw [CS.out]; omega, by have e1 := HSS.out; rw [CS.out]; congr 1; omega, rfl⟩
          case measure => simp [intOf]; omega
        · have hmonth : S < lenI Y M * 86400000000000 := by omega
          go_wp2_with (go_at_call 70; refine (rlength_any _ _ _).mono ?_; rintro e w' ⟨rfl, rfl⟩)
          clear CS hge lp0
          go_loopw [7] (fun t wr => ∃ d : Int, 1 ≤ d ∧ d ≤ lenI Y M ∧ 0 ≤ S - (d - 1) * 86400000000000 ∧ t = .int .u64 (S - (d - 1) * 86400000000000) ∧
              wr = w3.alloc (.cells #[.int .i64 Y, .int .i64 M, .int .i64 d, .int .i64 0, .int .i64 0, .int .i64 0, .int .i64 0, .int .i64 0] 62)) (fun t _ => (intOf t).toNat)
          case atStart => exact ⟨1, by omega, by omega, by omega, by simp, rfl⟩
          case round =>
            obtain ⟨d, d1, d2, L0, rfl, rfl⟩ := hrel
            obtain ⟨L, hL⟩ : ∃ L, L = S - (d - 1) * 86400000000000 := ⟨_, rfl⟩
            have lle : L ≤ X := by omega
            have HLL := Lib.hid hL
            rw [← hL] at L0 ⊢
            clear hL
            by_cases hge : 86400000000000 ≤ L
            · go_wp2
              go_roundw
              case rel => exact ⟨d + 1, by omega, by have := HLL.out; omega, by have := HLL.out; omega, by have := HLL.out; congr 1; omega, rfl⟩
              case measure => simp [intOf]; omega
            · go_wp2
              obtain ⟨hNN, hLn⟩ : (X + -8520336000000000000 = daysI Y M d * 86400000000000 + L) ∧ L < 86400000000000 := by
                have e1 := HR.out
                have e2 := HSS.out
                have e3 := HLL.out
                refine ⟨?_, by omega⟩
                unfold daysI
                omega
              refine bodyPost_ret (v := .agg #[.int .i64 Y, .int .i64 M, .int .i64 d, .int .i64 (L / 3600000000000), .int .i64 (L / 60000000000 % 60), .int .i64 (L / 1000000000 % 60), .int .i64 (L / 1000 % 1000000 * 1000), .int .i64 0])
                (by simp [results, Tryz.results33, go_sem, hc3, hz3, hc2, hz2]) rfl
                ⟨Y, M, d, _, _, _, _, rfl, ⟨rdate_right Y1 Y2 d1 d2 L0 hLn, by rw [HC.out]; exact rdate_nanos hNN⟩, ?_⟩
              have hle := Nat.le_refl w.heap.size
              exact ((((((((B3.setCell (p := ⟨w.heap.size, 0, none⟩) hle _).setCell (p := ⟨w.heap.size, 1, none⟩) hle _).setCell (p := ⟨w.heap.size, 2, none⟩) hle _).setCell (p := ⟨w.heap.size, 3, none⟩) hle _).setCell (p := ⟨w.heap.size, 4, none⟩) hle _).setCell (p := ⟨w.heap.size, 5, none⟩) hle _).setCell (p := ⟨w.heap.size, 6, none⟩) hle _).setCell (p := ⟨w.heap.size, 7, none⟩) hle _).alloc (by simp; omega) _
set_option maxHeartbeats 4000000 in
set_option maxRecDepth 100000 in
theorem rdate_low (n : Int) (w : World) (h : n < -8520336000000000000) : Calls Tryz.prog 33 #[.int .i64 n] w (DateAns n w) := by
  have hb1 : Below w.heap.size w (w.alloc (.cells #[.int .i64 0, .int .i64 0, .int .i64 0, .int .i64 0, .int .i64 0, .int .i64 0, .int .i64 0, .int .i64 0] 62)) := (Below.refl _ _).alloc (Nat.le_refl _) _
  have HL := Lib.hid rlow_nanos
  have HH := Lib.hid rhigh_nanos
  go_enter Tryz.func33, Tryz.ntmps33
  go_wp2_with fail
  refine (rnanos_yes _ _ _ _ _ _ _ _ _ rlow_right).mono ?_
  rintro e w2 ⟨rfl, hb2⟩
  have B2 : Below w.heap.size w w2 := hb1.trans (hb2.mono (by simp))
  obtain ⟨hc2, hf2⟩ := bcell hb2
  have hz2 : w.heap.size < w2.heap.size := by have := hb2.size; simp at this; omega
  rw [HL.out]
  clear hb1 hb2 HL
  go_wp2_with fail
  refine (rnanos_yes _ _ _ _ _ _ _ _ _ rhigh_right).mono ?_
  rintro e w3 ⟨rfl, hb3⟩
  have B3 : Below w.heap.size w w3 := B2.trans (hb3.mono B2.size)
  obtain ⟨hc3, hf3⟩ := bcell hb3
  have hz3 : w.heap.size < w3.heap.size := by have := hb3.size; omega
  rw [HH.out]
  clear hb3 HH B2
  go_wp2
  obtain ⟨X, hX⟩ : ∃ X : Int, X = 0 := ⟨_, rfl⟩
  have x1 : 0 ≤ X := by omega
  have x2 : X < 17387827200000000000 := by omega
  have HC := Lib.hid (show clamp n - clamp n % 1000 = (X + -8520336000000000000) - (X + -8520336000000000000) % 1000 by
    rw [show clamp n = X + -8520336000000000000 by unfold clamp; rw [if_pos (by omega)]; omega])
  have HX := Lib.hid hX
  clear hX
  go_loopw [7] (fun t wr => ∃ Y : Int, 1700 ≤ Y ∧ Y ≤ 2250 ∧ 0 ≤ X - (dby Y - 620547) * 86400000000000 ∧ t = .int .u64 (X - (dby Y - 620547) * 86400000000000) ∧
      wr = w3.alloc (.cells #[.int .i64 Y, .int .i64 1, .int .i64 1, .int .i64 0, .int .i64 0, .int .i64 0, .int .i64 0, .int .i64 0] 62)) (fun t _ => (intOf t).toNat)
  case atStart => exact ⟨1700, by omega, by omega, by rw [dby_1700]; omega, by rw [dby_1700, HX.out]; rfl, rfl⟩
  case round =>
    obtain ⟨Y, Y1, Y2, R0, rfl, rfl⟩ := hrel
    obtain ⟨R, hR⟩ : ∃ R, R = X - (dby Y - 620547) * 86400000000000 := ⟨_, rfl⟩
    have HR := Lib.hid hR
    rw [← hR] at R0 ⊢
    have rle : R ≤ X := by have := dby_mono 1700 Y Y1; rw [dby_1700] at this; omega
    have lb := lenI_bd Y 2
    have HT := Lib.hid (lenI_two Y)
    have HS := Lib.hid (dby_succ Y)
    clear hR
    by_cases hge : (337 + lenI Y 2) * 86400000000000 ≤ R
    · have hlt : Y < 2250 := by
        by_cases k : Y < 2250
        · exact k
        · obtain rfl : Y = 2250 := by omega
          have e1 := HR.out
          have e2 := HT.out
          have e3 := HS.out
          have e4 : (2250 : Int) + 1 = 2251 := rfl
          rw [e4, dby_2251] at e3
          omega
      go_wp2_with (go_at_call 70; refine (rlength_any _ _ _).mono ?_; rintro e w' ⟨rfl, rfl⟩)
      go_roundw
      case rel => exact ⟨Y + 1, by omega, by omega, by have e1 := HR.out; have e2 := HT.out; have e3 := HS.out; rw [e3]; omega, by have e1 := HR.out; have e2 := HT.out; have e3 := HS.out; rw [e3]; congr 1; omega, rfl⟩
      case measure => simp [intOf]; omega
    · have hyear : R < (365 + lp Y) * 86400000000000 := by have e2 := HT.out; omega
      go_wp2_with (go_at_call 70; refine (rlength_any _ _ _).mono ?_; rintro e w' ⟨rfl, rfl⟩)
      clear HS HT hge lb
      go_loopw [7] (fun t wr => ∃ M : Int, 1 ≤ M ∧ M ≤ 12 ∧ 0 ≤ R - cum Y M * 86400000000000 ∧ t = .int .u64 (R - cum Y M * 86400000000000) ∧
          wr = w3.alloc (.cells #[.int .i64 Y, .int .i64 M, .int .i64 1, .int .i64 0, .int .i64 0, .int .i64 0, .int .i64 0, .int .i64 0] 62)) (fun t _ => (intOf t).toNat)
      case atStart => exact ⟨1, by omega, by omega, by rw [cum_one]; omega, by rw [cum_one]; simp, rfl⟩
      case round =>
        obtain ⟨M, M1, M2, S0, rfl, rfl⟩ := hrel
        obtain ⟨S, hS⟩ : ∃ S, S = R - cum Y M * 86400000000000 := ⟨_, rfl⟩
        have cb := cum_bd Y M M1 M2
        have sle : S ≤ X := by omega
        have HSS := Lib.hid hS
        rw [← hS] at S0 ⊢
        have lb := lenI_bd Y M
        have lp0 := lenI_pos Y M M1 M2
        have CS := Lib.hid (cum_succ Y M M1 M2)
        clear hS
        by_cases hge : lenI Y M * 86400000000000 ≤ S
        · have hlt : M < 12 := by
            by_cases k : M < 12
            · exact k
            · obtain rfl : M = 12 := by omega
              have e1 := HSS.out
              have e3 := CS.out
              have e4 : (12 : Int) + 1 = 13 := rfl
              rw [e4, cum_13] at e3
              omega
          go_wp2_with (go_at_call 70; refine (rlength_any _ _ _).mono ?_; rintro e w' ⟨rfl, rfl⟩)
          go_roundw
          case rel => exact ⟨M + 1, by omega, by omega, by have e1 := HSS.out; rw [CS.out]; omega, by have e1 := HSS.out; rw [CS.out]; congr 1; omega, rfl⟩
          case measure => simp [intOf]; omega
        · have hmonth : S < lenI Y M * 86400000000000 := by omega
          go_wp2_with (go_at_call 70; refine (rlength_any _ _ _).mono ?_; rintro e w' ⟨rfl, rfl⟩)
          clear CS hge lp0
          go_loopw [7] (fun t wr => ∃ d : Int, 1 ≤ d ∧ d ≤ lenI Y M ∧ 0 ≤ S - (d - 1) * 86400000000000 ∧ t = .int .u64 (S - (d - 1) * 86400000000000) ∧
              wr = w3.alloc (.cells #[.int .i64 Y, .int .i64 M, .int .i64 d, .int .i64 0, .int .i64 0, .int .i64 0, .int .i64 0, .int .i64 0] 62)) (fun t _ => (intOf t).toNat)
          case atStart => exact ⟨1, by omega, by omega, by omega, by simp, rfl⟩
          case round =>
            obtain ⟨d, d1, d2, L0, rfl, rfl⟩ := hrel
            obtain ⟨L, hL⟩ : ∃ L, L = S - (d - 1) * 86400000000000 := ⟨_, rfl⟩
            have lle : L ≤ X := by omega
            have HLL := Lib.hid hL
            rw [← hL] at L0 ⊢
            clear hL
            by_cases hge : 86400000000000 ≤ L
            · go_wp2
              go_roundw
              case rel => exact ⟨d + 1, by omega, by have := HLL.out; omega, by have := HLL.out; omega, by have := HLL.out; congr 1; omega, rfl⟩
              case measure => simp [intOf]; omega
            · go_wp2
              obtain ⟨hNN, hLn⟩ : (X + -8520336000000000000 = daysI Y M d * 86400000000000 + L) ∧ L < 86400000000000 := by
                have e1 := HR.out
                have e2 := HSS.out
                have e3 := HLL.out
                refine ⟨?_, by omega⟩
                unfold daysI
                omega
              refine bodyPost_ret (v := .agg #[.int .i64 Y, .int .i64 M, .int .i64 d, .int .i64 (L / 3600000000000), .int .i64 (L / 60000000000 % 60), .int .i64 (L / 1000000000 % 60), .int .i64 (L / 1000 % 1000000 * 1000), .int .i64 0])
                (by simp [results, Tryz.results33, go_sem, hc3, hz3, hc2, hz2]) rfl
                ⟨Y, M, d, _, _, _, _, rfl, ⟨rdate_right Y1 Y2 d1 d2 L0 hLn, by rw [HC.out]; exact rdate_nanos hNN⟩, ?_⟩
              have hle := Nat.le_refl w.heap.size
              exact ((((((((B3.setCell (p := ⟨w.heap.size, 0, none⟩) hle _).setCell (p := ⟨w.heap.size, 1, none⟩) hle _).setCell (p := ⟨w.heap.size, 2, none⟩) hle _).setCell (p := ⟨w.heap.size, 3, none⟩) hle _).setCell (p := ⟨w.heap.size, 4, none⟩) hle _).setCell (p := ⟨w.heap.size, 5, none⟩) hle _).setCell (p := ⟨w.heap.size, 6, none⟩) hle _).setCell (p := ⟨w.heap.size, 7, none⟩) hle _).alloc (by simp; omega) _
set_option maxHeartbeats 4000000 in
set_option maxRecDepth 100000 in
theorem rdate_high (n : Int) (w : World) (h : 8867491199999999000 < n) : Calls Tryz.prog 33 #[.int .i64 n] w (DateAns n w) := by
  have hb1 : Below w.heap.size w (w.alloc (.cells #[.int .i64 0, .int .i64 0, .int .i64 0, .int .i64 0, .int .i64 0, .int .i64 0, .int .i64 0, .int .i64 0] 62)) := (Below.refl _ _).alloc (Nat.le_refl _) _
  have HL := Lib.hid rlow_nanos
  have HH := Lib.hid rhigh_nanos
  go_enter Tryz.func33, Tryz.ntmps33
  go_wp2_with fail
  refine (rnanos_yes _ _ _ _ _ _ _ _ _ rlow_right).mono ?_
  rintro e w2 ⟨rfl, hb2⟩
  have B2 : Below w.heap.size w w2 := hb1.trans (hb2.mono (by simp))
  obtain ⟨hc2, hf2⟩ := bcell hb2
  have hz2 : w.heap.size < w2.heap.size := by have := hb2.size; simp at this; omega
  rw [HL.out]
  clear hb1 hb2 HL
  go_wp2_with fail
  refine (rnanos_yes _ _ _ _ _ _ _ _ _ rhigh_right).mono ?_
  rintro e w3 ⟨rfl, hb3⟩
  have B3 : Below w.heap.size w w3 := B2.trans (hb3.mono B2.size)
  obtain ⟨hc3, hf3⟩ := bcell hb3
  have hz3 : w.heap.size < w3.heap.size := by have := hb3.size; omega
  rw [HH.out]
  clear hb3 HH B2
  go_wp2
  obtain ⟨X, hX⟩ : ∃ X : Int, X = 17387827199999999000 := ⟨_, rfl⟩
  have x1 : 0 ≤ X := by omega
  have x2 : X < 17387827200000000000 := by omega
  have HC := Lib.hid (show clamp n - clamp n % 1000 = (X + -8520336000000000000) - (X + -8520336000000000000) % 1000 by
    unfold clamp; rw [if_neg (by omega)]; split <;> omega)
  have HX := Lib.hid hX
  clear hX
  go_loopw [7] (fun t wr => ∃ Y : Int, 1700 ≤ Y ∧ Y ≤ 2250 ∧ 0 ≤ X - (dby Y - 620547) * 86400000000000 ∧ t = .int .u64 (X - (dby Y - 620547) * 86400000000000) ∧
      wr = w3.alloc (.cells #[.int .i64 Y, .int .i64 1, .int .i64 1, .int .i64 0, .int .i64 0, .int .i64 0, .int .i64 0, .int .i64 0] 62)) (fun t _ => (intOf t).toNat)
  case atStart => exact ⟨1700, by omega, by omega, by rw [dby_1700]; omega, by rw [dby_1700, HX.out, u64_in _ (by omega) (by omega)]; rfl, rfl⟩
  case round =>
    obtain ⟨Y, Y1, Y2, R0, rfl, rfl⟩ := hrel
    obtain ⟨R, hR⟩ : ∃ R, R = X - (dby Y - 620547) * 86400000000000 := ⟨_, rfl⟩
    have HR := Lib.hid hR
    rw [← hR] at R0 ⊢
    have rle : R ≤ X := by have := dby_mono 1700 Y Y1; rw [dby_1700] at this; omega
    have lb := lenI_bd Y 2
    have HT := Lib.hid (lenI_two Y)
    have HS := Lib.hid (dby_succ Y)
    clear hR
    by_cases hge : (337 + lenI Y 2) * 86400000000000 ≤ R
    · have hlt : Y < 2250 := by
        by_cases k : Y < 2250
        · exact k
        · obtain rfl : Y = 2250 := by omega
          have e1 := HR.out
          have e2 := HT.out
          have e3 := HS.out
          have e4 : (2250 : Int) + 1 = 2251 := rfl
          rw [e4, dby_2251] at e3
          omega
      go_wp2_with (go_at_call 70; refine (rlength_any _ _ _).mono ?_; rintro e w' ⟨rfl, rfl⟩)
      go_roundw
      case rel => exact ⟨Y + 1, by omega, by omega, by have e1 := HR.out; have e2 := HT.out; have e3 := HS.out; rw [e3]; omega, by have e1 := HR.out; have e2 := HT.out; have e3 := HS.out; rw [e3]; congr 1; omega, rfl⟩
      case measure => simp [intOf]; omega
    · have hyear : R < (365 + lp Y) * 86400000000000 := by have e2 := HT.out; omega
      go_wp2_with (go_at_call 70; refine (rlength_any _ _ _).mono ?_; rintro e w' ⟨rfl, rfl⟩)
      clear HS HT hge lb
      go_loopw [7] (fun t wr => ∃ M : Int, 1 ≤ M ∧ M ≤ 12 ∧ 0 ≤ R - cum Y M * 86400000000000 ∧ t = .int .u64 (R - cum Y M * 86400000000000) ∧
          wr = w3.alloc (.cells #[.int .i64 Y, .int .i64 M, .int .i64 1, .int .i64 0, .int .i64 0, .int .i64 0, .int .i64 0, .int .i64 0] 62)) (fun t _ => (intOf t).toNat)
      case atStart => exact ⟨1, by omega, by omega, by rw [cum_one]; omega, by rw [cum_one]; simp, rfl⟩
      case round =>
        obtain ⟨M, M1, M2, S0, rfl, rfl⟩ := hrel
        obtain ⟨S, hS⟩ : ∃ S, S = R - cum Y M * 86400000000000 := ⟨_, rfl⟩
        have cb := cum_bd Y M M1 M2
        have sle : S ≤ X := by omega
        have HSS := Lib.hid hS
        rw [← hS] at S0 ⊢
        have lb := lenI_bd Y M
        have lp0 := lenI_pos Y M M1 M2
        have CS := Lib.hid (cum_succ Y M M1 M2)
        clear hS
        by_cases hge : lenI Y M * 86400000000000 ≤ S
        · have hlt : M < 12 := by
            by_cases k : M < 12
            · exact k
            · obtain rfl : M = 12 := by omega
              have e1 := HSS.out
              have e3 := CS.out
              have e4 : (12 : Int) + 1 = 13 := rfl
              rw [e4, cum_13] at e3
              omega
          go_wp2_with (go_at_call 70; refine (rlength_any _ _ _).mono ?_; rintro e w' ⟨rfl, rfl⟩)
          go_roundw
          case rel => exact ⟨M + 1, by omega, by omega, by have e1 := HSS.out; rw [CS.out]; omega, by have e1 := HSS.out; rw [CS.out]; congr 1; omega, rfl⟩
          case measure => simp [intOf]; omega
        · have hmonth : S < lenI Y M * 86400000000000 := by omega
          go_wp2_with (go_at_call 70; refine (rlength_any _ _ _).mono ?_; rintro e w' ⟨rfl, rfl⟩)
          clear CS hge lp0
          go_loopw [7] (fun t wr => ∃ d : Int, 1 ≤ d ∧ d ≤ lenI Y M ∧ 0 ≤ S - (d - 1) * 86400000000000 ∧ t = .int .u64 (S - (d - 1) * 86400000000000) ∧
              wr = w3.alloc (.cells #[.int .i64 Y, .int .i64 M, .int .i64 d, .int .i64 0, .int .i64 0, .int .i64 0, .int .i64 0, .int .i64 0] 62)) (fun t _ => (intOf t).toNat)
          case atStart => exact ⟨1, by omega, by omega, by omega, by simp, rfl⟩
          case round =>
            obtain ⟨d, d1, d2, L0, rfl, rfl⟩ := hrel
            obtain ⟨L, hL⟩ : ∃ L, L = S - (d - 1) * 86400000000000 := ⟨_, rfl⟩
            have lle : L ≤ X := by omega
            have HLL := Lib.hid hL
            rw [← hL] at L0 ⊢
            clear hL
            by_cases hge : 86400000000000 ≤ L
            · go_wp2
              go_roundw
              case rel => exact ⟨d + 1, by omega, by have := HLL.out; omega, by have := HLL.out; omega, by have := HLL.out; congr 1; omega, rfl⟩
              case measure => simp [intOf]; omega
            · go_wp2
              obtain ⟨hNN, hLn⟩ : (X + -8520336000000000000 = daysI Y M d * 86400000000000 + L) ∧ L < 86400000000000 := by
                have e1 := HR.out
                have e2 := HSS.out
                have e3 := HLL.out
                refine ⟨?_, by omega⟩
                unfold daysI
                omega
              refine bodyPost_ret (v := .agg #[.int .i64 Y, .int .i64 M, .int .i64 d, .int .i64 (L / 3600000000000), .int .i64 (L / 60000000000 % 60), .int .i64 (L / 1000000000 % 60), .int .i64 (L / 1000 % 1000000 * 1000), .int .i64 0])
                (by simp [results, Tryz.results33, go_sem, hc3, hz3, hc2, hz2]) rfl
                ⟨Y, M, d, _, _, _, _, rfl, ⟨rdate_right Y1 Y2 d1 d2 L0 hLn, by rw [HC.out]; exact rdate_nanos hNN⟩, ?_⟩
              have hle := Nat.le_refl w.heap.size
              exact ((((((((B3.setCell (p := ⟨w.heap.size, 0, none⟩) hle _).setCell (p := ⟨w.heap.size, 1, none⟩) hle _).setCell (p := ⟨w.heap.size, 2, none⟩) hle _).setCell (p := ⟨w.heap.size, 3, none⟩) hle _).setCell (p := ⟨w.heap.size, 4, none⟩) hle _).setCell (p := ⟨w.heap.size, 5, none⟩) hle _).setCell (p := ⟨w.heap.size, 6, none⟩) hle _).setCell (p := ⟨w.heap.size, 7, none⟩) hle _).alloc (by simp; omega) _
theorem rdate_any (n : Int) (w : World) : Calls Tryz.prog 33 #[.int .i64 n] w (DateAns n w) := by
  by_cases h1 : n < -8520336000000000000
  · exact rdate_low n w h1
  · by_cases h2 : 8867491199999999000 < n
    · exact rdate_high n w h2
    · exact rdate_mid n w (by omega) (by omega)
end Go.Proofs.YtnaijahhogndjaaGreatDoor.Cal
/- Words, names and values of messages, as lists of bytes. No program is spoken of. -/
namespace Go.Proofs.YtnaijahhogndjaaGreatDoor
open Go

def bytes (l : List UInt8) : ByteArray := ⟨l.toArray⟩
theorem bytes_size (l : List UInt8) : (bytes l).size = l.length := by show l.toArray.size = _; simp
theorem bytes_list (l : List UInt8) : (bytes l).data.toList = l := rfl
theorem bytes_self (s : ByteArray) : bytes s.data.toList = s := by cases s; rfl
theorem list_size (s : ByteArray) : s.data.toList.length = s.size := by rw [Array.length_toList]; rfl
theorem drop_at (s : ByteArray) (k : Nat) (h : k < s.size) : s.data.toList.drop k = s[k] :: s.data.toList.drop (k + 1) := by
  rw [List.drop_eq_getElem_cons (by rw [Array.length_toList]; exact h)]
  rfl
theorem take_at (s : ByteArray) (k : Nat) (h : k < s.size) : s.data.toList.take (k + 1) = s.data.toList.take k ++ [s[k]] := by
  rw [List.take_succ_eq_append_getElem (by simpa using h)]; rfl
theorem take_all (s : ByteArray) : s.data.toList.take s.size = s.data.toList := List.take_of_length_le (by rw [list_size]; exact Nat.le_refl _)

/-- May a byte stand in a word? -/
def wordByte (c : UInt8) : Bool := decide (33 ≤ (c.toNat : Int) ∧ (c.toNat : Int) ≤ 126)
def plainB (l : List UInt8) (most : Int) : Bool := decide (0 < l.length ∧ (l.length : Int) ≤ most) && l.all wordByte
/-- Does a byte of a value have a mark ahead? -/
def marked (c : UInt8) : Bool := c == 34 || c == 92 || c == 93
def valueL (l : List UInt8) : List UInt8 := l.flatMap fun c => if marked c = true then [92, c] else [c]
def wordB (l : List UInt8) (most : Int) : Bool := decide (l = []) || (decide (l ≠ [45]) && plainB l most)
def nameB (l : List UInt8) : Bool := plainB l 32 && !(Lib.containsAny l [61, 93, 34])
theorem plain_ascii {l : List UInt8} {m : Int} (h : plainB l m = true) (j : Nat) (b : UInt8) (hb : l[j]? = some b) : b.toNat < 128 := by
  unfold plainB at h
  rw [Bool.and_eq_true] at h
  have := List.all_eq_true.1 h.2 b (List.mem_of_getElem? hb)
  have := of_decide_eq_true this
  omega
theorem plain_len {l : List UInt8} {m : Int} (h : plainB l m = true) : 0 < l.length ∧ (l.length : Int) ≤ m := by
  unfold plainB at h
  rw [Bool.and_eq_true] at h
  exact of_decide_eq_true h.1
end Go.Proofs.YtnaijahhogndjaaGreatDoor
/- Valid UTF-8 as the document reads it, byte by byte, is what the library's ValidString tells: lists alone. -/
namespace Go.Proofs.YtnaijahhogndjaaGreatDoor
open Go.Lib

def u8tail : Nat → List UInt8 → Nat → Option Nat
  | 0, _, v => some v
  | _ + 1, [], _ => none
  | n + 1, d :: r, v => if 128 ≤ d.toNat ∧ d.toNat ≤ 191 then u8tail n r (64 * v + d.toNat - 128) else none
def u8ok (low v : Nat) : Bool := !(decide (v < low) || (decide (1114111 < v) || (decide (55296 ≤ v) && decide (v ≤ 57343))))
def u8rest (n low : Nat) (r : List UInt8) : Option Nat → Bool
  | none => false
  | some v => u8ok low v && validD (r.drop n)
/-- A lead byte: how many follow, the least value, what it adds. -/
def U8Lead (c n low v : Nat) : Prop := (194 ≤ c ∧ c ≤ 223 ∧ n = 1 ∧ low = 128 ∧ v + 192 = c) ∨ (224 ≤ c ∧ c ≤ 239 ∧ n = 2 ∧ low = 2048 ∧ v + 224 = c) ∨ (240 ≤ c ∧ c ≤ 244 ∧ n = 3 ∧ low = 65536 ∧ v + 240 = c)
theorem u8tail_short : ∀ (n : Nat) (r : List UInt8) (v : Nat), r.length < n → u8tail n r v = none
  | 0, _, _, h => absurd h (Nat.not_lt_zero _)
  | _ + 1, [], _, _ => rfl
  | n + 1, d :: r, v, h => by
    rw [u8tail]
    split
    · exact u8tail_short n r _ (by simpa using h)
    · rfl
theorem u8tail_ok {n : Nat} {r : List UInt8} {v : Nat} {d : UInt8} (h : r[0]? = some d) (hd : 128 ≤ d.toNat ∧ d.toNat ≤ 191) : u8tail (n + 1) r v = u8tail n (r.drop 1) (64 * v + d.toNat - 128) := by
  cases r with
  | nil => cases h
  | cons x r => cases h; rw [u8tail, if_pos hd]; rfl
theorem u8tail_bad {n : Nat} {r : List UInt8} {v : Nat} {d : UInt8} (h : r[0]? = some d) (hd : ¬ (128 ≤ d.toNat ∧ d.toNat ≤ 191)) : u8tail (n + 1) r v = none := by
  cases r with
  | nil => cases h
  | cons x r => cases h; rw [u8tail, if_neg hd]
theorem valid_bad (c : UInt8) (r : List UInt8) (h : (128 ≤ c.toNat ∧ c.toNat < 194) ∨ 245 ≤ c.toNat) : validD (c :: r) = false := by
  have hc := c.toNat_lt
  rw [validD_lead (c :: r) (by simp) (by simp; omega)]
  have e : firstT c.toNat = 241 := by unfold firstT; (repeat' split) <;> first | rfl | omega
  simp [e, checkN]
set_option maxHeartbeats 4000000 in
set_option maxRecDepth 100000 in
theorem valid_lead (c : UInt8) (r : List UInt8) (n low v : Nat) (h : U8Lead c.toNat n low v) : validD (c :: r) = u8rest n low r (u8tail n r v) := by
  have hc := c.toNat_lt
  have h128 : 128 ≤ c.toNat := by unfold U8Lead at h; omega
  rw [validD_lead (c :: r) (by simp) (by simpa using h128)]
  simp only [List.getD_cons_zero, List.getD_cons_succ, List.length_cons]
  generalize c.toNat = C at *
  rcases h with ⟨h1, h2, rfl, rfl, h3⟩ | ⟨h1, h2, rfl, rfl, h3⟩ | ⟨h1, h2, rfl, rfl, h3⟩
  · have e : firstT C = 2 := by unfold firstT; (repeat' split) <;> first | rfl | omega
    rw [e]
    match r with
    | [] => simp [checkN, u8tail, u8rest]
    | d1 :: t =>
      have := d1.toNat_lt
      simp only [List.getD_cons_zero, List.length_cons, checkN, accLo, accHi, u8tail]
      by_cases hd : 128 ≤ d1.toNat ∧ d1.toNat ≤ 191
      · have hu : u8ok 128 (64 * v + d1.toNat - 128) = true := by simp [u8ok]; omega
        rw [if_pos hd, u8rest, hu]
        simp
        rw [if_neg (by omega)]
        rfl
      · rw [if_neg hd, u8rest]
        simp
        rw [if_pos (by omega)]
  · match r with
    | [] =>
      rcases (show C = 224 ∨ C = 237 ∨ (C ≠ 224 ∧ C ≠ 237) by omega) with rfl | rfl | ⟨n1, n2⟩
      · simp [firstT, checkN, u8tail, u8rest]
      · simp [firstT, checkN, u8tail, u8rest]
      · have e : firstT C = 3 := by unfold firstT; (repeat' split) <;> first | rfl | omega
        rw [e]; simp [checkN, u8tail, u8rest]
    | [d1] =>
      have hn : u8tail 2 [d1] v = none := u8tail_short _ _ _ (by simp)
      rw [hn]
      rcases (show C = 224 ∨ C = 237 ∨ (C ≠ 224 ∧ C ≠ 237) by omega) with rfl | rfl | ⟨n1, n2⟩
      · simp [firstT, checkN, u8rest]
      · simp [firstT, checkN, u8rest]
      · have e : firstT C = 3 := by unfold firstT; (repeat' split) <;> first | rfl | omega
        rw [e]; simp [checkN, u8rest]
    | d1 :: d2 :: t =>
      have l1 := d1.toNat_lt
      have l2 := d2.toNat_lt
      have hk : ∀ lo hi, checkN (t.length + 1 + 1 + 1) d1.toNat d2.toNat ((d1 :: d2 :: t).getD 2 0).toNat 3 lo hi = if d1.toNat < lo ∨ hi < d1.toNat ∨ d2.toNat < 128 ∨ 191 < d2.toNat then none else some 3 := by
        intro lo hi
        have hq : (t.length + 1 + 1 + 1 < 3) = False := by simp
        simp [checkN, hq]
      have hu : u8rest 2 2048 (d1 :: d2 :: t) (u8tail 2 (d1 :: d2 :: t) v) = if (128 ≤ d1.toNat ∧ d1.toNat ≤ 191) ∧ (128 ≤ d2.toNat ∧ d2.toNat ≤ 191) then u8ok 2048 (64 * (64 * v + d1.toNat - 128) + d2.toNat - 128) && validD t else false := by
        rw [u8tail, u8tail, u8tail]
        by_cases q1 : 128 ≤ d1.toNat ∧ d1.toNat ≤ 191
        · by_cases q2 : 128 ≤ d2.toNat ∧ d2.toNat ≤ 191
          · rw [if_pos q1, if_pos q2, if_pos ⟨q1, q2⟩]; rfl
          · rw [if_pos q1, if_neg q2, if_neg (fun h => q2 h.2)]; rfl
        · rw [if_neg q1, if_neg (fun h => q1 h.1)]; rfl
      rw [hu]
      simp only [List.getD_cons_zero, List.getD_cons_succ, List.length_cons] at hk ⊢
      generalize d1.toNat = D1 at *
      generalize d2.toNat = D2 at *
      have fin : ∀ lo hi, firstT C % 8 = 3 → accLo (firstT C / 16) = lo → accHi (firstT C / 16) = hi →
          ((lo ≤ D1 ∧ D1 ≤ hi ∧ 128 ≤ D2 ∧ D2 ≤ 191) ↔ ((128 ≤ D1 ∧ D1 ≤ 191) ∧ (128 ≤ D2 ∧ D2 ≤ 191)) ∧ u8ok 2048 (64 * (64 * v + D1 - 128) + D2 - 128) = true) →
          (match checkN (t.length + 1 + 1 + 1) D1 D2 (t.getD 0 0).toNat (firstT C % 8) (accLo (firstT C / 16)) (accHi (firstT C / 16)) with
            | none => false
            | some k => validD ((c :: d1 :: d2 :: t).drop k)) = if (128 ≤ D1 ∧ D1 ≤ 191) ∧ (128 ≤ D2 ∧ D2 ≤ 191) then u8ok 2048 (64 * (64 * v + D1 - 128) + D2 - 128) && validD t else false := by
        intro lo hi e1 e2 e3 hiff
        rw [e1, e2, e3, hk]
        by_cases hx : lo ≤ D1 ∧ D1 ≤ hi ∧ 128 ≤ D2 ∧ D2 ≤ 191
        · have hy := hiff.1 hx
          rw [if_neg (by omega), if_pos hy.1, hy.2]
          simp
        · rw [if_pos (by omega)]
          by_cases hz : (128 ≤ D1 ∧ D1 ≤ 191) ∧ (128 ≤ D2 ∧ D2 ≤ 191)
          · have hw : u8ok 2048 (64 * (64 * v + D1 - 128) + D2 - 128) = false := by
              cases hq : u8ok 2048 (64 * (64 * v + D1 - 128) + D2 - 128) with
              | false => rfl
              | true => exact absurd (hiff.2 ⟨hz, hq⟩) hx
            rw [if_pos hz, hw]; rfl
          · rw [if_neg hz]
      rcases (show C = 224 ∨ C = 237 ∨ (C ≠ 224 ∧ C ≠ 237) by omega) with rfl | rfl | ⟨n1, n2⟩
      · exact fin 160 191 (by decide) (by decide) (by decide) (by simp [u8ok]; omega)
      · exact fin 128 159 (by decide) (by decide) (by decide) (by simp [u8ok]; omega)
      · have e : firstT C = 3 := by unfold firstT; (repeat' split) <;> first | rfl | omega
        exact fin 128 191 (by rw [e]) (by rw [e]; rfl) (by rw [e]; rfl) (by simp [u8ok]; omega)
  · by_cases hl : r.length < 3
    · have hn : u8tail 3 r v = none := u8tail_short _ _ _ hl
      rw [hn]
      have e : firstT C % 8 = 4 := by
        rcases (show C = 240 ∨ C = 244 ∨ (C ≠ 240 ∧ C ≠ 244) by omega) with rfl | rfl | ⟨n1, n2⟩
        · decide
        · decide
        · unfold firstT; (repeat' split) <;> first | rfl | omega
      rw [e]
      simp only [checkN, u8rest]
      rw [if_neg (by decide), if_neg (by decide), if_pos (by decide), if_pos (.inl (by omega))]
    · match r, hl with
      | [], hl => exact absurd (by simp) hl
      | [_], hl => exact absurd (by simp) hl
      | [_, _], hl => exact absurd (by simp) hl
      | d1 :: d2 :: d3 :: t, hl =>
        have l1 := d1.toNat_lt
        have l2 := d2.toNat_lt
        have l3 := d3.toNat_lt
        clear hl
        have hk : ∀ lo hi, checkN (t.length + 1 + 1 + 1 + 1) d1.toNat d2.toNat d3.toNat 4 lo hi = if d1.toNat < lo ∨ hi < d1.toNat ∨ d2.toNat < 128 ∨ 191 < d2.toNat ∨ d3.toNat < 128 ∨ 191 < d3.toNat then none else some 4 := by
          intro lo hi
          have hq : (t.length + 1 + 1 + 1 + 1 < 4) = False := by simp
          simp [checkN, hq]
        have hu : u8rest 3 65536 (d1 :: d2 :: d3 :: t) (u8tail 3 (d1 :: d2 :: d3 :: t) v) = if (128 ≤ d1.toNat ∧ d1.toNat ≤ 191) ∧ (128 ≤ d2.toNat ∧ d2.toNat ≤ 191) ∧ (128 ≤ d3.toNat ∧ d3.toNat ≤ 191) then u8ok 65536 (64 * (64 * (64 * v + d1.toNat - 128) + d2.toNat - 128) + d3.toNat - 128) && validD t else false := by
          rw [u8tail, u8tail, u8tail, u8tail]
          by_cases q1 : 128 ≤ d1.toNat ∧ d1.toNat ≤ 191
          · by_cases q2 : 128 ≤ d2.toNat ∧ d2.toNat ≤ 191
            · by_cases q3 : 128 ≤ d3.toNat ∧ d3.toNat ≤ 191
              · rw [if_pos q1, if_pos q2, if_pos q3, if_pos ⟨q1, q2, q3⟩]; rfl
              · rw [if_pos q1, if_pos q2, if_neg q3, if_neg (fun h => q3 h.2.2)]; rfl
            · rw [if_pos q1, if_neg q2, if_neg (fun h => q2 h.2.1)]; rfl
          · rw [if_neg q1, if_neg (fun h => q1 h.1)]; rfl
        rw [hu]
        simp only [List.getD_cons_zero, List.getD_cons_succ, List.length_cons] at hk ⊢
        generalize d1.toNat = D1 at *
        generalize d2.toNat = D2 at *
        generalize d3.toNat = D3 at *
        have fin : ∀ lo hi, firstT C % 8 = 4 → accLo (firstT C / 16) = lo → accHi (firstT C / 16) = hi →
            ((lo ≤ D1 ∧ D1 ≤ hi ∧ 128 ≤ D2 ∧ D2 ≤ 191 ∧ 128 ≤ D3 ∧ D3 ≤ 191) ↔ ((128 ≤ D1 ∧ D1 ≤ 191) ∧ (128 ≤ D2 ∧ D2 ≤ 191) ∧ (128 ≤ D3 ∧ D3 ≤ 191)) ∧ u8ok 65536 (64 * (64 * (64 * v + D1 - 128) + D2 - 128) + D3 - 128) = true) →
            (match checkN (t.length + 1 + 1 + 1 + 1) D1 D2 D3 (firstT C % 8) (accLo (firstT C / 16)) (accHi (firstT C / 16)) with
              | none => false
              | some k => validD ((c :: d1 :: d2 :: d3 :: t).drop k)) = if (128 ≤ D1 ∧ D1 ≤ 191) ∧ (128 ≤ D2 ∧ D2 ≤ 191) ∧ (128 ≤ D3 ∧ D3 ≤ 191) then u8ok 65536 (64 * (64 * (64 * v + D1 - 128) + D2 - 128) + D3 - 128) && validD t else false := by
          intro lo hi e1 e2 e3 hiff
          rw [e1, e2, e3, hk]
          by_cases hx : lo ≤ D1 ∧ D1 ≤ hi ∧ 128 ≤ D2 ∧ D2 ≤ 191 ∧ 128 ≤ D3 ∧ D3 ≤ 191
          · have hy := hiff.1 hx
            rw [if_neg (by omega), if_pos hy.1, hy.2]
            simp
          · rw [if_pos (by omega)]
            by_cases hz : (128 ≤ D1 ∧ D1 ≤ 191) ∧ (128 ≤ D2 ∧ D2 ≤ 191) ∧ (128 ≤ D3 ∧ D3 ≤ 191)
            · have hw : u8ok 65536 (64 * (64 * (64 * v + D1 - 128) + D2 - 128) + D3 - 128) = false := by
                cases hq : u8ok 65536 (64 * (64 * (64 * v + D1 - 128) + D2 - 128) + D3 - 128) with
                | false => rfl
                | true => exact absurd (hiff.2 ⟨hz, hq⟩) hx
              rw [if_pos hz, hw]; rfl
            · rw [if_neg hz]
        rcases (show C = 240 ∨ C = 244 ∨ (C ≠ 240 ∧ C ≠ 244) by omega) with rfl | rfl | ⟨n1, n2⟩
        · exact fin 144 191 (by decide) (by decide) (by decide) (by simp [u8ok]; omega)
        · exact fin 128 143 (by decide) (by decide) (by decide) (by simp [u8ok]; omega)
        · have e : firstT C = 4 := by unfold firstT; (repeat' split) <;> first | rfl | omega
          exact fin 128 191 (by rw [e]) (by rw [e]; rfl) (by rw [e]; rfl) (by simp [u8ok]; omega)
end Go.Proofs.YtnaijahhogndjaaGreatDoor
