/- The texts CalDates, CalDated, CalDate, one behind the other. -/
import Derived.Test.YtmmghppjhmdikaaGreatDoorAF1
/- Dates of days and of nanoseconds, as whole numbers: two right dates of Zone 0 with the same nanoseconds are the same. No program is spoken of. -/
namespace Go.Proofs.YtmmghppjhmdikaaGreatDoor.Cal

theorem guess_year (k : Int) (h0 : 0 ≤ k) (h : k ≤ 600) : dby (1700 + k) ≤ 620547 + 366 * k := by unfold dby; omega
theorem cum_mono (y a b : Int) (h1 : 1 ≤ a) (h2 : b ≤ 12) (h : a < b) : cum y (a + 1) ≤ cum y b := by
  obtain ⟨k, rfl⟩ : ∃ k : Nat, b = a + 1 + k := ⟨(b - a - 1).toNat, by omega⟩
  clear h
  induction k with
  | zero => simp
  | succ k ih =>
    have := ih (by omega)
    have e := cum_succ y (a + 1 + k) (by omega) (by omega)
    have l := lenI_bd y (a + 1 + k)
    have : a + 1 + (↑(k + 1) : Int) = a + 1 + k + 1 := by omega
    rw [this]; omega
/-- Two dates of the same days are the same. -/
theorem days_inj {y m d y' m' d' : Int} (h3 : 1 ≤ d) (h4 : d ≤ lenI y m) (g3 : 1 ≤ d') (g4 : d' ≤ lenI y' m') (e : daysI y m d = daysI y' m' d') : y = y' ∧ m = m' ∧ d = d' := by
  obtain ⟨m1, m2⟩ := month_of_day h3 h4
  obtain ⟨k1, k2⟩ := month_of_day g3 g4
  have hy : y = y' := by
    have a := cum_bd y m m1 m2
    have b := cum_bd y' m' k1 k2
    have s := dby_succ y
    have s' := dby_succ y'
    unfold daysI at e
    rcases Int.lt_trichotomy y y' with h | h | h
    · have := dby_mono (y + 1) y' (by omega); omega
    · exact h
    · have := dby_mono (y' + 1) y (by omega); omega
  subst hy
  have hm : m = m' := by
    unfold daysI at e
    have s := cum_succ y m m1 m2
    have s' := cum_succ y m' k1 k2
    rcases Int.lt_trichotomy m m' with h | h | h
    · have := cum_mono y m m' m1 k2 h; omega
    · exact h
    · have := cum_mono y m' m k1 m2 h; omega
  subst hm
  unfold daysI at e
  exact ⟨rfl, rfl, by omega⟩
theorem nanos_inj {y m d h i s n y' m' d' h' i' s' n' : Int} (r : rightB y m d h i s n 0 = true) (r' : rightB y' m' d' h' i' s' n' 0 = true) (e : nanosI y m d h i s n 0 = nanosI y' m' d' h' i' s' n' 0) :
    y = y' ∧ m = m' ∧ d = d' ∧ h = h' ∧ i = i' ∧ s = s' ∧ n = n' := by
  obtain ⟨_, ⟨d1, d2⟩, ⟨h1, h2⟩, ⟨i1, i2⟩, ⟨s1, s2⟩, ⟨n1, n2⟩, _, _⟩ := (right_iff ..).1 r
  obtain ⟨_, ⟨D1, D2⟩, ⟨H1, H2⟩, ⟨I1, I2⟩, ⟨S1, S2⟩, ⟨N1, N2⟩, _, _⟩ := (right_iff ..).1 r'
  unfold nanosI at e
  have hd : daysI y m d = daysI y' m' d' := by omega
  obtain ⟨rfl, rfl, rfl⟩ := days_inj d1 d2 D1 D2 hd
  generalize daysI y m d = D at e
  have : h = h' := by omega
  subst this
  have : i = i' := by omega
  subst this
  have : s = s' := by omega
  subst this
  exact ⟨rfl, rfl, rfl, rfl, rfl, rfl, by omega⟩

/-- Nanoseconds that are taken: those of the years that there are. -/
def clamp (n : Int) : Int := if n < -8520336000000000000 then -8520336000000000000 else if 8867491200000000000 ≤ n then 8867491199999999999 else n
theorem clamp_bd (n : Int) : -8520336000000000000 ≤ clamp n ∧ clamp n < 8867491200000000000 := by unfold clamp; split; omega; split <;> omega
theorem clamp_days (n : Int) : -98615 ≤ clamp n / 86400000000000 ∧ clamp n / 86400000000000 ≤ 102632 := by have := clamp_bd n; omega
/-- A date of nanoseconds: L of them behind the day's beginning. -/
theorem date_right {L y m d : Int} (h1 : 1700 ≤ y) (h2 : y ≤ 2250) (h3 : 1 ≤ d) (h4 : d ≤ lenI y m) (l1 : 0 ≤ L) (l2 : L < 86400000000000) :
    rightB y m d (L / 3600000000000) (L % 3600000000000 / 60000000000) (L % 60000000000 / 1000000000) (L % 1000000000 - L % 1000) 0 = true :=
  (right_iff ..).2 ⟨⟨h1, h2⟩, ⟨h3, h4⟩, by omega⟩
theorem date_nanos {N Q L y m d : Int} (e : daysI y m d = Q) (hN : N = Q * 86400000000000 + L) :
    nanosI y m d (L / 3600000000000) (L % 3600000000000 / 60000000000) (L % 60000000000 / 1000000000) (L % 1000000000 - L % 1000) 0 = N - N % 1000 := by
  unfold nanosI
  rw [e]
  omega
theorem nanos_low {y m d h i s n : Int} (r : rightB y m d h i s n 0 = true) (hy : 1700 < y) : -8520336000000000000 + 1000 ≤ nanosI y m d h i s n 0 := by
  obtain ⟨⟨y1, y2⟩, ⟨d1, d2⟩, ⟨h1, h2⟩, ⟨i1, i2⟩, ⟨s1, s2⟩, ⟨n1, n2⟩, _, _⟩ := (right_iff ..).1 r
  obtain ⟨m1, m2⟩ := month_of_day d1 d2
  have a := dby_mono (1700 + 1) y (by omega)
  have b := dby_succ 1700
  have c := cum_bd y m m1 m2
  have l := lp_01 1700
  rw [b, dby_1700] at a
  unfold nanosI daysI
  omega
theorem nanos_high {y m d h i s n : Int} (r : rightB y m d h i s n 0 = true) (hy : y < 2250) : nanosI y m d h i s n 0 < 8867491200000000000 - 1000 := by
  obtain ⟨⟨y1, y2⟩, ⟨d1, d2⟩, ⟨h1, h2⟩, ⟨i1, i2⟩, ⟨s1, s2⟩, ⟨n1, n2⟩, _, _⟩ := (right_iff ..).1 r
  obtain ⟨m1, m2⟩ := month_of_day d1 d2
  have a := dby_mono (y + 1) 2250 (by omega)
  have b := dby_succ y
  have c := cum_bd y m m1 m2
  rw [dby_2250] at a
  unfold nanosI daysI
  omega
theorem nanos_thousands {y m d h i s n z : Int} (r : rightB y m d h i s n z = true) : nanosI y m d h i s n z % 1000 = 0 := by
  obtain ⟨_, _, _, _, _, _, hn, _⟩ := (right_iff ..).1 r
  unfold nanosI
  omega
end Go.Proofs.YtmmghppjhmdikaaGreatDoor.Cal
/- What dateOf and Date answer: the right date of Zone 0 of so many days, and of so many nanoseconds, cut to microseconds and to the years that there are. Conditions: the table of months' lengths stands. -/
namespace Go.Proofs.YtmmghppjhmdikaaGreatDoor.Cal
open Go.ChangeShapes Go.WideShapes Go.ChangeAt Go.RowKit

/-- A date of so many days. -/
def DayIs (days y m d : Int) : Prop := (1700 ≤ y ∧ y ≤ 2250) ∧ (1 ≤ d ∧ d ≤ lenI y m) ∧ daysI y m d = days
def DateOfAns (days : Int) (w : World) (e : Ending) (w' : World) : Prop :=
  ∃ y m d : Int, e = .returned (.agg #[.int .i64 y, .int .i64 m, .int .i64 d, .int .i64 0, .int .i64 0, .int .i64 0, .int .i64 0, .int .i64 0]) ∧ DayIs days y m d ∧ Below w.heap.size w w'
set_option maxHeartbeats 1000000 in
theorem dateOf_any (n : Int) (w : World) (ht : Tab w) (h1 : -98615 ≤ n) (h2 : n ≤ 102632) :
    Calls Tryz.prog 100 #[.int .i64 n] w (DateOfAns n w) := by
  have g0 := guess_year ((n - -98615) / 366) (by omega) (by omega)
  have g1 : dby (1700 + (n - -98615) / 366) - 719162 ≤ n := by omega
  have G1 := Lib.hid g1
  clear g0 g1
  have ht1 : Tab (w.alloc (.cells #[.int .i64 0, .int .i64 0, .int .i64 0, .int .i64 0, .int .i64 0, .int .i64 0, .int .i64 0, .int .i64 0] 50)) := ht.alloc _
  have e0 := dby_1700
  clear ht
  go_enter Tryz.func100, Tryz.ntmps100
  go_wp2_with (go_at_call 94; refine (newYear_any _ _ (by omega) (by omega)).mono ?_; rintro e w' ⟨rfl, rfl⟩)
  go_loop [3] (fun t => ∃ y : Int, 1700 ≤ y ∧ y ≤ 2250 ∧ dby y - 719162 ≤ n ∧ t = .int .i64 y) (fun t => (2250 - intOf t).toNat)
  case atStart => exact ⟨_, by omega, by omega, G1.out, by simp⟩
  case round =>
    obtain ⟨y, y1, y2, y3, rfl⟩ := hrel
    clear G1 e0
    have hb := dby_bd y (by omega) (by omega)
    have hb' := dby_bd (y + 1) (by omega) (by omega)
    by_cases hd : dby (y + 1) - 719162 ≤ n
    · have hlt : y < 2250 := by
        by_cases k : y < 2250
        · exact k
        · obtain rfl : y = 2250 := by omega
          have e := dby_2251
          have e' : (2250 : Int) + 1 = 2251 := rfl
          rw [e', e] at hd
          omega
      go_wp2_with (go_at_call 94; refine (newYear_any _ _ (by omega) (by omega)).mono ?_; rintro e w' ⟨rfl, rfl⟩)
      go_round
      case rel => exact ⟨y + 1, by omega, by omega, hd, rfl⟩
      case measure => simp [intOf]; omega
    · have HS := Lib.hid (dby_succ y)
      have hs := lp_01 y
      have hlen : n - (dby y - 719162) + 1 ≤ 365 + lp y := by have := HS.out; omega
      go_wp2_with (go_at_call 94; refine (newYear_any _ _ (by omega) (by omega)).mono ?_; rintro e w' ⟨rfl, rfl⟩)
      go_loop [4, 5] (fun k t => ∃ m : Int, 1 ≤ m ∧ m ≤ 12 ∧ k = .int .i64 m ∧ 1 ≤ n - (dby y - 719162) + 1 - cum y m ∧ t = .int .i64 (n - (dby y - 719162) + 1 - cum y m)) (fun k _ => (12 - intOf k).toNat)
      case atStart => exact ⟨1, by omega, by omega, rfl, by rw [cum_one]; omega, by rw [cum_one]; simp⟩
      case round =>
        obtain ⟨m, m1, m2, rfl, t1, rfl⟩ := hrel
        have cb := cum_bd y m m1 m2
        have lb := lenI_bd y m
        have CS := Lib.hid (cum_succ y m m1 m2)
        by_cases hgt : lenI y m < n - (dby y - 719162) + 1 - cum y m
        · have hm : m < 12 := by
            by_cases k : m < 12
            · exact k
            · obtain rfl : m = 12 := by omega
              have e := CS.out
              have e' : (12 : Int) + 1 = 13 := rfl
              rw [e', cum_13] at e
              omega
          go_wp2_with (go_at_call 93; refine (length_any _ _ _ ht1).mono ?_; rintro e w' ⟨rfl, rfl⟩)
          go_round
          case rel => exact ⟨m + 1, by omega, by omega, rfl, by rw [CS.out]; omega, by rw [CS.out]; go_num⟩
          case measure => simp [intOf]; omega
        · go_wp2_with (go_at_call 93; refine (length_any _ _ _ ht1).mono ?_; rintro e w' ⟨rfl, rfl⟩)
          refine bodyPost_ret (v := .agg #[.int .i64 y, .int .i64 m, .int .i64 (n - (dby y - 719162) + 1 - cum y m), .int .i64 0, .int .i64 0, .int .i64 0, .int .i64 0, .int .i64 0]) (by simp [results, Tryz.results100, go_sem]) rfl ⟨y, m, _, rfl, ⟨⟨y1, y2⟩, ⟨t1, by omega⟩, by unfold daysI; omega⟩, ?_⟩
          exact (Below.refl _ _).alloc (Nat.le_refl _) _
end Go.Proofs.YtmmghppjhmdikaaGreatDoor.Cal
/- What Date answers. -/
namespace Go.Proofs.YtmmghppjhmdikaaGreatDoor.Cal
open Go.ChangeShapes Go.WideShapes Go.ChangeAt Go.RowKit

/-- The date of nanoseconds. -/
def DateIs (N y m d h i s k : Int) : Prop := rightB y m d h i s k 0 = true ∧ nanosI y m d h i s k 0 = N - N % 1000
def DateAns (n : Int) (w : World) (e : Ending) (w' : World) : Prop :=
  ∃ y m d h i s k : Int, e = .returned (.agg #[.int .i64 y, .int .i64 m, .int .i64 d, .int .i64 h, .int .i64 i, .int .i64 s, .int .i64 k, .int .i64 0]) ∧ DateIs (clamp n) y m d h i s k ∧ Below w.heap.size w w'
theorem tdiv_parts (n D : Int) (hD : 0 < D) (h : n < 0) : ∃ q r : Int, n.tdiv D = q ∧ n.tmod D = r ∧ n = D * q + r ∧ -D < r ∧ r ≤ 0 := by
  refine ⟨_, _, rfl, rfl, (Int.mul_tdiv_add_tmod n D).symm, ?_, ?_⟩
  · have e : n.tmod D = -((-n).tmod D) := by rw [Int.neg_tmod]; omega
    have := Int.tmod_lt_of_pos (-n) hD
    omega
  · have e : n.tmod D = -((-n).tmod D) := by rw [Int.neg_tmod]; omega
    have := Int.tmod_nonneg D (show 0 ≤ -n by omega)
    omega
set_option maxHeartbeats 1000000 in
theorem date_pos (n : Int) (w : World) (ht : Tab w) (h1 : 0 ≤ n) (h2 : n < 8867491200000000000) :
    Calls Tryz.prog 74 #[.int .i64 n] w (DateAns n w) := by
  have HN := Lib.hid (show clamp n = n by unfold clamp; rw [if_neg (by omega), if_neg (by omega)])
  have HE := Lib.hid (show n = n / 86400000000000 * 86400000000000 + n % 86400000000000 by omega)
  have l0 : ¬ n % 86400000000000 < 0 := by omega
  have l1 : 0 ≤ n % 86400000000000 := by omega
  have l2 : n % 86400000000000 < 86400000000000 := by omega
  have q1 : 0 ≤ n / 86400000000000 := by omega
  have q2 : n / 86400000000000 ≤ 102632 := by omega
  have ht1 : Tab (w.alloc (.cells #[.int .i64 0, .int .i64 0, .int .i64 0, .int .i64 0, .int .i64 0, .int .i64 0, .int .i64 0, .int .i64 0] 50)) := ht.alloc _
  have hb1 : Below w.heap.size w (w.alloc (.cells #[.int .i64 0, .int .i64 0, .int .i64 0, .int .i64 0, .int .i64 0, .int .i64 0, .int .i64 0, .int .i64 0] 50)) := (Below.refl _ _).alloc (Nat.le_refl _) _
  have e0 := dby_1700
  have e1 := dby_2251
  clear ht
  go_enter Tryz.func74, Tryz.ntmps74
  go_wp2_with (go_at_call 94; refine (newYear_any _ _ (by omega) (by omega)).mono ?_; rintro e w' ⟨rfl, rfl⟩)
  refine (dateOf_any _ _ ht1 (by omega) (by omega)).mono ?_
  rintro e w2 ⟨y, m, d, rfl, hday, hb2⟩
  have B2 : Below w.heap.size w w2 := hb1.trans (hb2.mono (by simp))
  obtain ⟨hc2, hf2⟩ := bcell hb2
  have hz : w.heap.size < w2.heap.size := by have := hb2.size; simp at this; omega
  have HD := Lib.hid hday
  clear hday ht1 hb1 hb2 e0 e1 l0
  generalize n / 86400000000000 = Q at q1 q2 HE HD ⊢
  generalize n % 86400000000000 = L at l1 l2 HE ⊢
  go_wp2
  obtain ⟨⟨y1, y2⟩, ⟨d1, d2⟩, hdays⟩ := HD.out
  refine bodyPost_ret (v := .agg #[.int .i64 y, .int .i64 m, .int .i64 d, .int .i64 (L / 3600000000000), .int .i64 (L % 3600000000000 / 60000000000), .int .i64 (L % 60000000000 / 1000000000), .int .i64 (L % 1000000000 - L % 1000), .int .i64 0])
    (by simp [results, Tryz.results74, go_sem, hc2, hz]) rfl
    ⟨y, m, d, _, _, _, _, rfl, ⟨date_right y1 y2 d1 d2 l1 l2, by rw [HN.out]; exact date_nanos hdays HE.out⟩, ?_⟩
  have hle := Nat.le_refl w.heap.size
  exact ((((((((B2.setCell (p := ⟨w.heap.size, 0, none⟩) hle _).setCell (p := ⟨w.heap.size, 1, none⟩) hle _).setCell (p := ⟨w.heap.size, 2, none⟩) hle _).setCell (p := ⟨w.heap.size, 3, none⟩) hle _).setCell (p := ⟨w.heap.size, 4, none⟩) hle _).setCell (p := ⟨w.heap.size, 5, none⟩) hle _).setCell (p := ⟨w.heap.size, 6, none⟩) hle _).setCell (p := ⟨w.heap.size, 7, none⟩) hle _).alloc (by simp; omega) _
set_option maxHeartbeats 1000000 in
theorem date_neg_whole (n : Int) (w : World) (ht : Tab w) (q : Int) (h1 : -8520336000000000000 ≤ n) (h2 : n < 0) (hq : n.tdiv 86400000000000 = q) (hr : n.tmod 86400000000000 = 0) (he : n = 86400000000000 * q + 0) :
    Calls Tryz.prog 74 #[.int .i64 n] w (DateAns n w) := by
  have HN := Lib.hid (show clamp n = n by unfold clamp; rw [if_neg (by omega), if_neg (by omega)])
  obtain ⟨L, hL⟩ : ∃ L : Int, L = 0 := ⟨0, rfl⟩
  have HE := Lib.hid (show n = q * 86400000000000 + L by omega)
  have l1 : 0 ≤ L := by omega
  have l2 : L < 86400000000000 := by omega
  have q1 : -98615 ≤ q := by omega
  have q2 : q ≤ 0 := by omega
  clear he
  have ht1 : Tab (w.alloc (.cells #[.int .i64 0, .int .i64 0, .int .i64 0, .int .i64 0, .int .i64 0, .int .i64 0, .int .i64 0, .int .i64 0] 50)) := ht.alloc _
  have hb1 : Below w.heap.size w (w.alloc (.cells #[.int .i64 0, .int .i64 0, .int .i64 0, .int .i64 0, .int .i64 0, .int .i64 0, .int .i64 0, .int .i64 0] 50)) := (Below.refl _ _).alloc (Nat.le_refl _) _
  have e0 := dby_1700
  have e1 := dby_2251
  clear ht
  go_enter Tryz.func74, Tryz.ntmps74
  go_wp2_with (go_at_call 94; refine (newYear_any _ _ (by omega) (by omega)).mono ?_; rintro e w' ⟨rfl, rfl⟩)
  refine (dateOf_any _ _ ht1 (by omega) (by omega)).mono ?_
  rintro e w2 ⟨y, m, d, rfl, hday, hb2⟩
  have B2 : Below w.heap.size w w2 := hb1.trans (hb2.mono (by simp))
  obtain ⟨hc2, hf2⟩ := bcell hb2
  have hz : w.heap.size < w2.heap.size := by have := hb2.size; simp at this; omega
  have HD := Lib.hid hday
  subst hL
  clear hday ht1 hb1 hb2 e0 e1
  go_wp2
  obtain ⟨⟨y1, y2⟩, ⟨d1, d2⟩, hdays⟩ := HD.out
  refine bodyPost_ret (v := .agg #[.int .i64 y, .int .i64 m, .int .i64 d, .int .i64 (0), .int .i64 0, .int .i64 0, .int .i64 0, .int .i64 0])
    (by simp [results, Tryz.results74, go_sem, hc2, hz]) rfl
    ⟨y, m, d, 0, 0, 0, 0, rfl, ⟨date_right (L := 0) y1 y2 d1 d2 l1 l2, by rw [HN.out]; exact date_nanos (L := 0) hdays HE.out⟩, ?_⟩
  have hle := Nat.le_refl w.heap.size
  exact ((((((((B2.setCell (p := ⟨w.heap.size, 0, none⟩) hle _).setCell (p := ⟨w.heap.size, 1, none⟩) hle _).setCell (p := ⟨w.heap.size, 2, none⟩) hle _).setCell (p := ⟨w.heap.size, 3, none⟩) hle _).setCell (p := ⟨w.heap.size, 4, none⟩) hle _).setCell (p := ⟨w.heap.size, 5, none⟩) hle _).setCell (p := ⟨w.heap.size, 6, none⟩) hle _).setCell (p := ⟨w.heap.size, 7, none⟩) hle _).alloc (by simp; omega) _
set_option maxHeartbeats 1000000 in
theorem date_neg_part (n : Int) (w : World) (ht : Tab w) (q r : Int) (h1 : -8520336000000000000 ≤ n) (h2 : n < 0) (hq : n.tdiv 86400000000000 = q) (hr : n.tmod 86400000000000 = r) (he : n = 86400000000000 * q + r) (r1 : -86400000000000 < r) (r2 : r < 0) :
    Calls Tryz.prog 74 #[.int .i64 n] w (DateAns n w) := by
  have HN := Lib.hid (show clamp n = n by unfold clamp; rw [if_neg (by omega), if_neg (by omega)])
  have HE := Lib.hid (show n = (q - 1) * 86400000000000 + (r + 86400000000000) by omega)
  have l1 : 0 ≤ r + 86400000000000 := by omega
  have l2 : r + 86400000000000 < 86400000000000 := by omega
  have q1 : -98615 ≤ q - 1 := by omega
  have q2 : q ≤ 0 := by omega
  clear he
  have ht1 : Tab (w.alloc (.cells #[.int .i64 0, .int .i64 0, .int .i64 0, .int .i64 0, .int .i64 0, .int .i64 0, .int .i64 0, .int .i64 0] 50)) := ht.alloc _
  have hb1 : Below w.heap.size w (w.alloc (.cells #[.int .i64 0, .int .i64 0, .int .i64 0, .int .i64 0, .int .i64 0, .int .i64 0, .int .i64 0, .int .i64 0] 50)) := (Below.refl _ _).alloc (Nat.le_refl _) _
  have e0 := dby_1700
  have e1 := dby_2251
  clear ht
  go_enter Tryz.func74, Tryz.ntmps74
  go_wp2_with (go_at_call 94; refine (newYear_any _ _ (by omega) (by omega)).mono ?_; rintro e w' ⟨rfl, rfl⟩)
  refine (dateOf_any _ _ ht1 (by omega) (by omega)).mono ?_
  rintro e w2 ⟨y, m, d, rfl, hday, hb2⟩
  have B2 : Below w.heap.size w w2 := hb1.trans (hb2.mono (by simp))
  obtain ⟨hc2, hf2⟩ := bcell hb2
  have hz : w.heap.size < w2.heap.size := by have := hb2.size; simp at this; omega
  have HD := Lib.hid hday
  clear hday ht1 hb1 hb2 e0 e1
  generalize q - 1 = Q at q1 HE HD ⊢
  generalize r + 86400000000000 = L at l1 l2 HE ⊢
  go_wp2
  obtain ⟨⟨y1, y2⟩, ⟨d1, d2⟩, hdays⟩ := HD.out
  refine bodyPost_ret (v := .agg #[.int .i64 y, .int .i64 m, .int .i64 d, .int .i64 (L / 3600000000000), .int .i64 (L % 3600000000000 / 60000000000), .int .i64 (L % 60000000000 / 1000000000), .int .i64 (L % 1000000000 - L % 1000), .int .i64 0])
    (by simp [results, Tryz.results74, go_sem, hc2, hz]) rfl
    ⟨y, m, d, _, _, _, _, rfl, ⟨date_right y1 y2 d1 d2 l1 l2, by rw [HN.out]; exact date_nanos hdays HE.out⟩, ?_⟩
  have hle := Nat.le_refl w.heap.size
  exact ((((((((B2.setCell (p := ⟨w.heap.size, 0, none⟩) hle _).setCell (p := ⟨w.heap.size, 1, none⟩) hle _).setCell (p := ⟨w.heap.size, 2, none⟩) hle _).setCell (p := ⟨w.heap.size, 3, none⟩) hle _).setCell (p := ⟨w.heap.size, 4, none⟩) hle _).setCell (p := ⟨w.heap.size, 5, none⟩) hle _).setCell (p := ⟨w.heap.size, 6, none⟩) hle _).setCell (p := ⟨w.heap.size, 7, none⟩) hle _).alloc (by simp; omega) _
theorem date_mid (n : Int) (w : World) (ht : Tab w) (h1 : -8520336000000000000 ≤ n) (h2 : n < 8867491200000000000) : Calls Tryz.prog 74 #[.int .i64 n] w (DateAns n w) := by
  by_cases h0 : 0 ≤ n
  · exact date_pos n w ht h0 h2
  · obtain ⟨q, r, hq, hr, he, r1, r2⟩ := tdiv_parts n 86400000000000 (by omega) (by omega)
    by_cases hz : r = 0
    · subst hz
      exact date_neg_whole n w ht q h1 (by omega) hq hr he
    · exact date_neg_part n w ht q r h1 (by omega) hq hr he r1 (by omega)
set_option maxHeartbeats 1000000 in
theorem date_low (n : Int) (w : World) (ht : Tab w) (h : n < -8520336000000000000) :
    Calls Tryz.prog 74 #[.int .i64 n] w (DateAns n w) := by
  have HN := Lib.hid (show clamp n = -8520336000000000000 by unfold clamp; rw [if_pos (by omega)])
  have ht1 : Tab (w.alloc (.cells #[.int .i64 0, .int .i64 0, .int .i64 0, .int .i64 0, .int .i64 0, .int .i64 0, .int .i64 0, .int .i64 0] 50)) := ht.alloc _
  have hb1 : Below w.heap.size w (w.alloc (.cells #[.int .i64 0, .int .i64 0, .int .i64 0, .int .i64 0, .int .i64 0, .int .i64 0, .int .i64 0, .int .i64 0] 50)) := (Below.refl _ _).alloc (Nat.le_refl _) _
  have e0 := dby_1700
  have e1 := dby_2251
  clear ht
  go_enter Tryz.func74, Tryz.ntmps74
  go_wp2_with (go_at_call 94; refine (newYear_any _ _ (by omega) (by omega)).mono ?_; rintro e w' ⟨rfl, rfl⟩)
  refine (dateOf_any _ _ ht1 (by omega) (by omega)).mono ?_
  rintro e w2 ⟨y, m, d, rfl, hday, hb2⟩
  have B2 : Below w.heap.size w w2 := hb1.trans (hb2.mono (by simp))
  obtain ⟨hc2, hf2⟩ := bcell hb2
  have hz : w.heap.size < w2.heap.size := by have := hb2.size; simp at this; omega
  have HD := Lib.hid hday
  clear hday ht1 hb1 hb2 e0 e1
  go_wp2
  obtain ⟨⟨y1, y2⟩, ⟨d1, d2⟩, hdays⟩ := HD.out
  refine bodyPost_ret (v := .agg #[.int .i64 y, .int .i64 m, .int .i64 d, .int .i64 0, .int .i64 0, .int .i64 0, .int .i64 0, .int .i64 0])
    (by simp [results, Tryz.results74, go_sem, hc2, hz]) rfl
    ⟨y, m, d, _, _, _, _, rfl, ⟨date_right (L := 0) y1 y2 d1 d2 (by omega) (by omega), by rw [HN.out]; exact date_nanos (L := 0) hdays (by omega)⟩, ?_⟩
  have hle := Nat.le_refl w.heap.size
  exact ((((((((B2.setCell (p := ⟨w.heap.size, 0, none⟩) hle _).setCell (p := ⟨w.heap.size, 1, none⟩) hle _).setCell (p := ⟨w.heap.size, 2, none⟩) hle _).setCell (p := ⟨w.heap.size, 3, none⟩) hle _).setCell (p := ⟨w.heap.size, 4, none⟩) hle _).setCell (p := ⟨w.heap.size, 5, none⟩) hle _).setCell (p := ⟨w.heap.size, 6, none⟩) hle _).setCell (p := ⟨w.heap.size, 7, none⟩) hle _).alloc (by simp; omega) _
set_option maxHeartbeats 1000000 in
theorem date_high (n : Int) (w : World) (ht : Tab w) (h : 8867491200000000000 ≤ n) :
    Calls Tryz.prog 74 #[.int .i64 n] w (DateAns n w) := by
  have HN := Lib.hid (show clamp n = 8867491199999999999 by unfold clamp; rw [if_neg (by omega), if_pos (by omega)])
  have ht1 : Tab (w.alloc (.cells #[.int .i64 0, .int .i64 0, .int .i64 0, .int .i64 0, .int .i64 0, .int .i64 0, .int .i64 0, .int .i64 0] 50)) := ht.alloc _
  have hb1 : Below w.heap.size w (w.alloc (.cells #[.int .i64 0, .int .i64 0, .int .i64 0, .int .i64 0, .int .i64 0, .int .i64 0, .int .i64 0, .int .i64 0] 50)) := (Below.refl _ _).alloc (Nat.le_refl _) _
  have e0 := dby_1700
  have e1 := dby_2251
  clear ht
  go_enter Tryz.func74, Tryz.ntmps74
  go_wp2_with (go_at_call 94; refine (newYear_any _ _ (by omega) (by omega)).mono ?_; rintro e w' ⟨rfl, rfl⟩)
  refine (dateOf_any _ _ ht1 (by omega) (by omega)).mono ?_
  rintro e w2 ⟨y, m, d, rfl, hday, hb2⟩
  have B2 : Below w.heap.size w w2 := hb1.trans (hb2.mono (by simp))
  obtain ⟨hc2, hf2⟩ := bcell hb2
  have hz : w.heap.size < w2.heap.size := by have := hb2.size; simp at this; omega
  have HD := Lib.hid hday
  clear hday ht1 hb1 hb2 e0 e1
  go_wp2
  obtain ⟨⟨y1, y2⟩, ⟨d1, d2⟩, hdays⟩ := HD.out
  refine bodyPost_ret (v := .agg #[.int .i64 y, .int .i64 m, .int .i64 d, .int .i64 23, .int .i64 59, .int .i64 59, .int .i64 999999000, .int .i64 0])
    (by simp [results, Tryz.results74, go_sem, hc2, hz]) rfl
    ⟨y, m, d, _, _, _, _, rfl, ⟨date_right (L := 86399999999999) y1 y2 d1 d2 (by omega) (by omega), by rw [HN.out]; exact date_nanos (L := 86399999999999) hdays (by omega)⟩, ?_⟩
  have hle := Nat.le_refl w.heap.size
  exact ((((((((B2.setCell (p := ⟨w.heap.size, 0, none⟩) hle _).setCell (p := ⟨w.heap.size, 1, none⟩) hle _).setCell (p := ⟨w.heap.size, 2, none⟩) hle _).setCell (p := ⟨w.heap.size, 3, none⟩) hle _).setCell (p := ⟨w.heap.size, 4, none⟩) hle _).setCell (p := ⟨w.heap.size, 5, none⟩) hle _).setCell (p := ⟨w.heap.size, 6, none⟩) hle _).setCell (p := ⟨w.heap.size, 7, none⟩) hle _).alloc (by simp; omega) _
theorem date_any (n : Int) (w : World) (ht : Tab w) : Calls Tryz.prog 74 #[.int .i64 n] w (DateAns n w) := by
  by_cases h1 : n < -8520336000000000000
  · exact date_low n w ht h1
  · by_cases h2 : 8867491200000000000 ≤ n
    · exact date_high n w ht h2
    · exact date_mid n w ht (by omega) (by omega)
end Go.Proofs.YtmmghppjhmdikaaGreatDoor.Cal
