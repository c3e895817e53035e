/- What the document's own answers for days and nanoseconds are: the same numbers. All memory that was there stays. No conditions. -/
import Derived.Test.YtameffdjjcpbkaaDoorRef
namespace Go.Proofs.YtameffdjjcpbkaaDoor
open Go.ChangeShapes Go.WideShapes Go.ChangeAt Go.RowKit

theorem lenI_two (y : Int) : lenI y 2 = 28 + lp y := rfl
theorem rdays_no (y m d : Int) (w : World) (hr : dayB y m d = false) :
    Calls Tryd.prog 11 #[.int .i64 y, .int .i64 m, .int .i64 d] w fun e w' => e = .returned (.tuple #[.int .i64 0, .int .i64 1]) ∧ w' = w := by
  go_enter Tryd.func11, Tryd.ntmps11
  go_wp2_with (go_at_call 27; refine (rday_any _ _ _ _).mono ?_; rintro e w' ⟨rfl, rfl⟩)
  go_ret2
  exact ⟨rfl, rfl⟩
set_option maxHeartbeats 2000000 in
theorem rdays_yes (y m d : Int) (w : World) (hr : dayB y m d = true) :
    Calls Tryd.prog 11 #[.int .i64 y, .int .i64 m, .int .i64 d] w fun e w' => e = .returned (.tuple #[.int .i64 (daysI y m d), .int .i64 0]) ∧ w' = w := by
  obtain ⟨⟨y1, y2⟩, d1, d2⟩ : (1700 ≤ y ∧ y ≤ 2250) ∧ 1 ≤ d ∧ d ≤ lenI y m := of_decide_eq_true hr
  obtain ⟨m1, m2⟩ := month_of_day d1 d2
  have hl := lenI_bd y m
  have cb0 := cum_bd y m m1 m2
  have l0 := lp_01 y
  go_enter Tryd.func11, Tryd.ntmps11
  go_wp2_with (go_at_call 27; refine (rday_any _ _ _ _).mono ?_; rintro e w' ⟨rfl, rfl⟩)
  go_loop [9, 10] (fun n k => ∃ j : Int, 1 ≤ j ∧ j ≤ m ∧ k = .int .i64 j ∧ n = .int .i64 (d - 1 + cum y j)) (fun _ k => (m - intOf k).toNat)
  case atStart => exact ⟨1, by omega, by omega, rfl, by rw [cum_one]; go_num⟩
  case round =>
    obtain ⟨j, j1, j2, rfl, rfl⟩ := hrel
    have cb := cum_bd y j j1 (by omega)
    have lb := lenI_bd y j
    by_cases hlt : j < m
    · have HC := Lib.hid (cum_succ y j j1 (by omega))
      go_wp2_with (go_at_call 17; refine (rlength_any _ _ _).mono ?_; rintro e w' ⟨rfl, rfl⟩)
      go_round
      case rel => exact ⟨j + 1, by omega, by omega, rfl, by rw [HC.out]; go_num⟩
      case measure => simp [intOf]; omega
    · obtain rfl : m = j := by omega
      have HY := Lib.hid dby_1970
      have HD := Lib.hid (show daysI y m d = dby y - 719162 + d - 1 + cum y m from rfl)
      generalize cum y m = C at cb cb0 HD ⊢
      clear lb
      go_wp2
      go_loop [9, 11] (fun n k => ∃ t : Int, 1970 ≤ t ∧ (t ≤ y ∨ t = 1970) ∧ k = .int .i64 t ∧ n = .int .i64 (d - 1 + C + (dby t - 719162))) (fun _ k => (y - intOf k).toNat)
      case atStart => exact ⟨1970, by omega, .inr rfl, rfl, by rw [HY.out]; go_num⟩
      case round =>
        obtain ⟨t, t1, t2, rfl, rfl⟩ := hrel
        have tb := dby_bd t (by omega) (by omega)
        have lt := lp_01 t
        by_cases hlt2 : t < y
        · have HS := Lib.hid (dby_succ t)
          have hlen := lenI_two t
          have h28 := lenI_bd t 2
          have HL := Lib.hid hlen
          clear hlen
          go_wp2_with (go_at_call 17; refine (rlength_any _ _ _).mono ?_; rintro e w' ⟨rfl, rfl⟩)
          go_round
          case rel =>
            refine ⟨t + 1, by omega, .inl (by omega), rfl, ?_⟩
            rw [HS.out, HL.out]
            congr 1
            omega
          case measure => simp [intOf]; omega
        · clear cb0 hlt
          have ht0 : (t = y ∧ 1970 ≤ y) ∨ (t = 1970 ∧ y < 1970) := by omega
          have hmax : dby t - 719162 = (if y < 1970 then 0 else dby y - 719162) := by
            rcases ht0 with ⟨rfl, h⟩ | ⟨rfl, h⟩
            · rw [if_neg (by omega)]
            · rw [if_pos h, HY.out]; rfl
          obtain ⟨X, hX⟩ : ∃ X, X = dby t - 719162 := ⟨_, rfl⟩
          have xb : -719162 ≤ X ∧ X ≤ 2933263 := by omega
          have HM := Lib.hid (hX.trans hmax)
          rw [← hX]
          clear hmax hX ht0 t2 tb lt
          go_wp2
          go_loop [9, 12] (fun n k => ∃ u : Int, y ≤ u ∧ (u ≤ 1970 ∨ u = y) ∧ k = .int .i64 u ∧ n = .int .i64 (d - 1 + C + X - (dby u - dby y))) (fun _ k => (1970 - intOf k).toNat)
          case atStart => exact ⟨y, by omega, .inr rfl, rfl, by go_num⟩
          case round =>
            obtain ⟨u, u1, u2, rfl, rfl⟩ := hrel
            have ub := dby_bd u (by omega) (by omega)
            have yb := dby_bd y (by omega) (by omega)
            have lu := lp_01 u
            by_cases hlt3 : u < 1970
            · have HS := Lib.hid (dby_succ u)
              have h28 := lenI_bd u 2
              have HL := Lib.hid (lenI_two u)
              go_wp2_with (go_at_call 17; refine (rlength_any _ _ _).mono ?_; rintro e w' ⟨rfl, rfl⟩)
              go_round
              case rel =>
                refine ⟨u + 1, by omega, .inl (by omega), rfl, ?_⟩
                rw [HS.out, HL.out]
                congr 1
                omega
              case measure => simp [intOf]; omega
            · go_wp2
              go_ret2
              refine ⟨?_, rfl⟩
              have key : d - 1 + C + X - (dby u - dby y) = daysI y m d := by
                have h1 := HM.out
                have h2 := HD.out
                have h3 := HY.out
                by_cases hy : y < 1970
                · rw [if_pos hy] at h1
                  obtain rfl : u = 1970 := by omega
                  omega
                · rw [if_neg hy] at h1
                  obtain rfl : u = y := by omega
                  omega
              rw [← key]
              rfl

theorem rnanos_no (y m d h i s n z : Int) (w : World) (hr : rightB y m d h i s n z = false) :
    Calls Tryd.prog 13 #[.agg #[.int .i64 y, .int .i64 m, .int .i64 d, .int .i64 h, .int .i64 i, .int .i64 s, .int .i64 n, .int .i64 z]] w
      fun e w' => e = .returned (.tuple #[.int .i64 0, .int .i64 1]) ∧ Below w.heap.size w w' := by
  have hb : Below w.heap.size w (w.alloc (.cells #[.int .i64 y, .int .i64 m, .int .i64 d, .int .i64 h, .int .i64 i, .int .i64 s, .int .i64 n, .int .i64 z] 23)) := (Below.refl _ _).alloc (Nat.le_refl _) _
  go_enter Tryd.func13, Tryd.ntmps13
  go_wp2_with (go_at_call 19; refine (rright_any _ _ _ _ _ _ _ _ _).mono ?_; rintro e w' ⟨rfl, hb2⟩)
  go_ret2
  exact ⟨rfl, hb.trans (hb2.mono (by simp))⟩
set_option maxHeartbeats 1000000 in
theorem rnanos_yes (y m d h i s n z : Int) (w : World) (hr : rightB y m d h i s n z = true) :
    Calls Tryd.prog 13 #[.agg #[.int .i64 y, .int .i64 m, .int .i64 d, .int .i64 h, .int .i64 i, .int .i64 s, .int .i64 n, .int .i64 z]] w
      fun e w' => e = .returned (.tuple #[.int .i64 (nanosI y m d h i s n z), .int .i64 0]) ∧ Below w.heap.size w w' := by
  obtain ⟨⟨y1, y2⟩, ⟨d1, d2⟩, ⟨h1, h2⟩, ⟨i1, i2⟩, ⟨s1, s2⟩, ⟨n1, n2⟩, _, ⟨z1, z2⟩⟩ := (right_iff ..).1 hr
  have hd := daysI_bd y1 y2 d1 d2
  have hr0 : dayB y m d = true := decide_eq_true ⟨⟨y1, y2⟩, d1, d2⟩
  have hb : Below w.heap.size w (w.alloc (.cells #[.int .i64 y, .int .i64 m, .int .i64 d, .int .i64 h, .int .i64 i, .int .i64 s, .int .i64 n, .int .i64 z] 23)) := (Below.refl _ _).alloc (Nat.le_refl _) _
  go_enter Tryd.func13, Tryd.ntmps13
  go_wp2_with fail
  refine (rright_any _ _ _ _ _ _ _ _ _).mono ?_
  rintro e w2 ⟨rfl, hb2⟩
  have B2 : Below w.heap.size w w2 := hb.trans (hb2.mono (by simp))
  obtain ⟨hc2, hf2⟩ := bcell hb2
  go_wp2_with fail
  refine (rdays_yes _ _ _ _ hr0).mono ?_
  rintro e w3 ⟨rfl, rfl⟩
  have hz : w.heap.size < w3.heap.size := by have := hb2.size; simp at this; omega
  have HN := Lib.hid (show nanosI y m d h i s n z = daysI y m d * 86400000000000 + h * 3600000000000 + (i - z) * 60000000000 + s * 1000000000 + n from rfl)
  generalize daysI y m d = D at hd HN ⊢
  clear hr hr0 hb hb2 y1 y2 d1 d2
  have hs : -10000000000 ≤ D * 86400 + h * 3600 + i * 60 + s - z * 60 ∧ D * 86400 + h * 3600 + i * 60 + s - z * 60 ≤ 9000000000 := by omega
  go_wp2
  go_ret2
  refine ⟨?_, B2⟩
  have key : (D * 86400 + h * 3600 + i * 60 + s - z * 60) * 1000000000 + n = nanosI y m d h i s n z := by rw [HN.out]; omega
  rw [← key]
  rfl
end Go.Proofs.YtameffdjjcpbkaaDoor
