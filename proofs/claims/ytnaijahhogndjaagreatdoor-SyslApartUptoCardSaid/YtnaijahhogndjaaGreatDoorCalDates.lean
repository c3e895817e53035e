/- Dates of days and of nanoseconds, as whole numbers: two right dates of Zone 0 with the same nanoseconds are the same. No program is spoken of. -/
import Derived.Test.YtnaijahhogndjaaGreatDoorCal
namespace Go.Proofs.YtnaijahhogndjaaGreatDoor.Cal

theorem guess_year (k : Int) (h0 : 0 ≤ k) (h : k ≤ 600) : dby (1700 + k) ≤ 620547 + 366 * k := by unfold dby; omega
theorem cum_mono (y a b : Int) (h1 : 1 ≤ a) (h2 : b ≤ 12) (h : a < b) : cum y (a + 1) ≤ cum y b := by
  obtain ⟨k, rfl⟩ : ∃ k : Nat, b = a + 1 + k := ⟨(b - a - 1).toNat, by omega⟩
  clear h
  induction k with
  | zero => simp
  | succ k ih =>
    have := ih (by omega)
    have e := cum_succ y (a + 1 + k) (by omega) (by omega)
    have l := lenI_bd y (a + 1 + k)
    have : a + 1 + (↑(k + 1) : Int) = a + 1 + k + 1 := by omega
    rw [this]; omega
/-- Two dates of the same days are the same. -/
theorem days_inj {y m d y' m' d' : Int} (h3 : 1 ≤ d) (h4 : d ≤ lenI y m) (g3 : 1 ≤ d') (g4 : d' ≤ lenI y' m') (e : daysI y m d = daysI y' m' d') : y = y' ∧ m = m' ∧ d = d' := by
  obtain ⟨m1, m2⟩ := month_of_day h3 h4
  obtain ⟨k1, k2⟩ := month_of_day g3 g4
  have hy : y = y' := by
    have a := cum_bd y m m1 m2
    have b := cum_bd y' m' k1 k2
    have s := dby_succ y
    have s' := dby_succ y'
    unfold daysI at e
    rcases Int.lt_trichotomy y y' with h | h | h
    · have := dby_mono (y + 1) y' (by omega); omega
    · exact h
    · have := dby_mono (y' + 1) y (by omega); omega
  subst hy
  have hm : m = m' := by
    unfold daysI at e
    have s := cum_succ y m m1 m2
    have s' := cum_succ y m' k1 k2
    rcases Int.lt_trichotomy m m' with h | h | h
    · have := cum_mono y m m' m1 k2 h; omega
    · exact h
    · have := cum_mono y m' m k1 m2 h; omega
  subst hm
  unfold daysI at e
  exact ⟨rfl, rfl, by omega⟩
theorem nanos_inj {y m d h i s n y' m' d' h' i' s' n' : Int} (r : rightB y m d h i s n 0 = true) (r' : rightB y' m' d' h' i' s' n' 0 = true) (e : nanosI y m d h i s n 0 = nanosI y' m' d' h' i' s' n' 0) :
    y = y' ∧ m = m' ∧ d = d' ∧ h = h' ∧ i = i' ∧ s = s' ∧ n = n' := by
  obtain ⟨_, ⟨d1, d2⟩, ⟨h1, h2⟩, ⟨i1, i2⟩, ⟨s1, s2⟩, ⟨n1, n2⟩, _, _⟩ := (right_iff ..).1 r
  obtain ⟨_, ⟨D1, D2⟩, ⟨H1, H2⟩, ⟨I1, I2⟩, ⟨S1, S2⟩, ⟨N1, N2⟩, _, _⟩ := (right_iff ..).1 r'
  unfold nanosI at e
  have hd : daysI y m d = daysI y' m' d' := by omega
  obtain ⟨rfl, rfl, rfl⟩ := days_inj d1 d2 D1 D2 hd
  generalize daysI y m d = D at e
  have : h = h' := by omega
  subst this
  have : i = i' := by omega
  subst this
  have : s = s' := by omega
  subst this
  exact ⟨rfl, rfl, rfl, rfl, rfl, rfl, by omega⟩

/-- Nanoseconds that are taken: those of the years that there are. -/
def clamp (n : Int) : Int := if n < -8520336000000000000 then -8520336000000000000 else if 8867491200000000000 ≤ n then 8867491199999999999 else n
theorem clamp_bd (n : Int) : -8520336000000000000 ≤ clamp n ∧ clamp n < 8867491200000000000 := by unfold clamp; split; omega; split <;> omega
theorem clamp_days (n : Int) : -98615 ≤ clamp n / 86400000000000 ∧ clamp n / 86400000000000 ≤ 102632 := by have := clamp_bd n; omega
/-- A date of nanoseconds: L of them behind the day's beginning. -/
theorem date_right {L y m d : Int} (h1 : 1700 ≤ y) (h2 : y ≤ 2250) (h3 : 1 ≤ d) (h4 : d ≤ lenI y m) (l1 : 0 ≤ L) (l2 : L < 86400000000000) :
    rightB y m d (L / 3600000000000) (L % 3600000000000 / 60000000000) (L % 60000000000 / 1000000000) (L % 1000000000 - L % 1000) 0 = true :=
  (right_iff ..).2 ⟨⟨h1, h2⟩, ⟨h3, h4⟩, by omega⟩
theorem date_nanos {N Q L y m d : Int} (e : daysI y m d = Q) (hN : N = Q * 86400000000000 + L) :
    nanosI y m d (L / 3600000000000) (L % 3600000000000 / 60000000000) (L % 60000000000 / 1000000000) (L % 1000000000 - L % 1000) 0 = N - N % 1000 := by
  unfold nanosI
  rw [e]
  omega
theorem nanos_low {y m d h i s n : Int} (r : rightB y m d h i s n 0 = true) (hy : 1700 < y) : -8520336000000000000 + 1000 ≤ nanosI y m d h i s n 0 := by
  obtain ⟨⟨y1, y2⟩, ⟨d1, d2⟩, ⟨h1, h2⟩, ⟨i1, i2⟩, ⟨s1, s2⟩, ⟨n1, n2⟩, _, _⟩ := (right_iff ..).1 r
  obtain ⟨m1, m2⟩ := month_of_day d1 d2
  have a := dby_mono (1700 + 1) y (by omega)
  have b := dby_succ 1700
  have c := cum_bd y m m1 m2
  have l := lp_01 1700
  rw [b, dby_1700] at a
  unfold nanosI daysI
  omega
theorem nanos_high {y m d h i s n : Int} (r : rightB y m d h i s n 0 = true) (hy : y < 2250) : nanosI y m d h i s n 0 < 8867491200000000000 - 1000 := by
  obtain ⟨⟨y1, y2⟩, ⟨d1, d2⟩, ⟨h1, h2⟩, ⟨i1, i2⟩, ⟨s1, s2⟩, ⟨n1, n2⟩, _, _⟩ := (right_iff ..).1 r
  obtain ⟨m1, m2⟩ := month_of_day d1 d2
  have a := dby_mono (y + 1) 2250 (by omega)
  have b := dby_succ y
  have c := cum_bd y m m1 m2
  rw [dby_2250] at a
  unfold nanosI daysI
  omega
theorem nanos_thousands {y m d h i s n z : Int} (r : rightB y m d h i s n z = true) : nanosI y m d h i s n z % 1000 = 0 := by
  obtain ⟨_, _, _, _, _, _, hn, _⟩ := (right_iff ..).1 r
  unfold nanosI
  omega
end Go.Proofs.YtnaijahhogndjaaGreatDoor.Cal
