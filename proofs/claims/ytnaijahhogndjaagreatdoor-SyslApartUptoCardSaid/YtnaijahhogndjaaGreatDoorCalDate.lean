/- What Date answers. -/
import Derived.Test.YtnaijahhogndjaaGreatDoorCalDated
namespace Go.Proofs.YtnaijahhogndjaaGreatDoor.Cal
open Go.ChangeShapes Go.WideShapes Go.ChangeAt Go.RowKit

/-- The date of nanoseconds. -/
def DateIs (N y m d h i s k : Int) : Prop := rightB y m d h i s k 0 = true ∧ nanosI y m d h i s k 0 = N - N % 1000
def DateAns (n : Int) (w : World) (e : Ending) (w' : World) : Prop :=
  ∃ y m d h i s k : Int, e = .returned (.agg #[.int .i64 y, .int .i64 m, .int .i64 d, .int .i64 h, .int .i64 i, .int .i64 s, .int .i64 k, .int .i64 0]) ∧ DateIs (clamp n) y m d h i s k ∧ Below w.heap.size w w'
theorem tdiv_parts (n D : Int) (hD : 0 < D) (h : n < 0) : ∃ q r : Int, n.tdiv D = q ∧ n.tmod D = r ∧ n = D * q + r ∧ -D < r ∧ r ≤ 0 := by
  refine ⟨_, _, rfl, rfl, (Int.mul_tdiv_add_tmod n D).symm, ?_, ?_⟩
  · have e : n.tmod D = -((-n).tmod D) := by rw [Int.neg_tmod]; omega
    have := Int.tmod_lt_of_pos (-n) hD
    omega
  · have e : n.tmod D = -((-n).tmod D) := by rw [Int.neg_tmod]; omega
    have := Int.tmod_nonneg D (show 0 ≤ -n by omega)
    omega
set_option maxHeartbeats 1000000 in
theorem date_pos (n : Int) (w : World) (ht : Tab w) (h1 : 0 ≤ n) (h2 : n < 8867491200000000000) :
    Calls Tryz.prog 67 #[.int .i64 n] w (DateAns n w) := by
  have HN := Lib.hid (show clamp n = n by unfold clamp; rw [if_neg (by omega), if_neg (by omega)])
  have HE := Lib.hid (show n = n / 86400000000000 * 86400000000000 + n % 86400000000000 by omega)
  have l0 : ¬ n % 86400000000000 < 0 := by omega
  have l1 : 0 ≤ n % 86400000000000 := by omega
  have l2 : n % 86400000000000 < 86400000000000 := by omega
  have q1 : 0 ≤ n / 86400000000000 := by omega
  have q2 : n / 86400000000000 ≤ 102632 := by omega
  have ht1 : Tab (w.alloc (.cells #[.int .i64 0, .int .i64 0, .int .i64 0, .int .i64 0, .int .i64 0, .int .i64 0, .int .i64 0, .int .i64 0] 62)) := ht.alloc _
  have hb1 : Below w.heap.size w (w.alloc (.cells #[.int .i64 0, .int .i64 0, .int .i64 0, .int .i64 0, .int .i64 0, .int .i64 0, .int .i64 0, .int .i64 0] 62)) := (Below.refl _ _).alloc (Nat.le_refl _) _
  have e0 := dby_1700
  have e1 := dby_2251
  clear ht
  go_enter Tryz.func67, Tryz.ntmps67
  go_wp2_with (go_at_call 98; refine (newYear_any _ _ (by omega) (by omega)).mono ?_; rintro e w' ⟨rfl, rfl⟩)
  refine (dateOf_any _ _ ht1 (by omega) (by omega)).mono ?_
  rintro e w2 ⟨y, m, d, rfl, hday, hb2⟩
  have B2 : Below w.heap.size w w2 := hb1.trans (hb2.mono (by simp))
  obtain ⟨hc2, hf2⟩ := bcell hb2
  have hz : w.heap.size < w2.heap.size := by have := hb2.size; simp at this; omega
  have HD := Lib.hid hday
  clear hday ht1 hb1 hb2 e0 e1 l0
  generalize n / 86400000000000 = Q at q1 q2 HE HD ⊢
  generalize n % 86400000000000 = L at l1 l2 HE ⊢
  go_wp2
  obtain ⟨⟨y1, y2⟩, ⟨d1, d2⟩, hdays⟩ := HD.out
  refine bodyPost_ret (v := .agg #[.int .i64 y, .int .i64 m, .int .i64 d, .int .i64 (L / 3600000000000), .int .i64 (L % 3600000000000 / 60000000000), .int .i64 (L % 60000000000 / 1000000000), .int .i64 (L % 1000000000 - L % 1000), .int .i64 0])
    (by simp [results, Tryz.results67, go_sem, hc2, hz]) rfl
    ⟨y, m, d, _, _, _, _, rfl, ⟨date_right y1 y2 d1 d2 l1 l2, by rw [HN.out]; exact date_nanos hdays HE.out⟩, ?_⟩
  have hle := Nat.le_refl w.heap.size
  exact ((((((((B2.setCell (p := ⟨w.heap.size, 0, none⟩) hle _).setCell (p := ⟨w.heap.size, 1, none⟩) hle _).setCell (p := ⟨w.heap.size, 2, none⟩) hle _).setCell (p := ⟨w.heap.size, 3, none⟩) hle _).setCell (p := ⟨w.heap.size, 4, none⟩) hle _).setCell (p := ⟨w.heap.size, 5, none⟩) hle _).setCell (p := ⟨w.heap.size, 6, none⟩) hle _).setCell (p := ⟨w.heap.size, 7, none⟩) hle _).alloc (by simp; omega) _
set_option maxHeartbeats 1000000 in
theorem date_neg_whole (n : Int) (w : World) (ht : Tab w) (q : Int) (h1 : -8520336000000000000 ≤ n) (h2 : n < 0) (hq : n.tdiv 86400000000000 = q) (hr : n.tmod 86400000000000 = 0) (he : n = 86400000000000 * q + 0) :
    Calls Tryz.prog 67 #[.int .i64 n] w (DateAns n w) := by
  have HN := Lib.hid (show clamp n = n by unfold clamp; rw [if_neg (by omega), if_neg (by omega)])
  obtain ⟨L, hL⟩ : ∃ L : Int, L = 0 := ⟨0, rfl⟩
  have HE := Lib.hid (show n = q * 86400000000000 + L by omega)
  have l1 : 0 ≤ L := by omega
  have l2 : L < 86400000000000 := by omega
  have q1 : -98615 ≤ q := by omega
  have q2 : q ≤ 0 := by omega
  clear he
  have ht1 : Tab (w.alloc (.cells #[.int .i64 0, .int .i64 0, .int .i64 0, .int .i64 0, .int .i64 0, .int .i64 0, .int .i64 0, .int .i64 0] 62)) := ht.alloc _
  have hb1 : Below w.heap.size w (w.alloc (.cells #[.int .i64 0, .int .i64 0, .int .i64 0, .int .i64 0, .int .i64 0, .int .i64 0, .int .i64 0, .int .i64 0] 62)) := (Below.refl _ _).alloc (Nat.le_refl _) _
  have e0 := dby_1700
  have e1 := dby_2251
  clear ht
  go_enter Tryz.func67, Tryz.ntmps67
  go_wp2_with (go_at_call 98; refine (newYear_any _ _ (by omega) (by omega)).mono ?_; rintro e w' ⟨rfl, rfl⟩)
  refine (dateOf_any _ _ ht1 (by omega) (by omega)).mono ?_
  rintro e w2 ⟨y, m, d, rfl, hday, hb2⟩
  have B2 : Below w.heap.size w w2 := hb1.trans (hb2.mono (by simp))
  obtain ⟨hc2, hf2⟩ := bcell hb2
  have hz : w.heap.size < w2.heap.size := by have := hb2.size; simp at this; omega
  have HD := Lib.hid hday
  subst hL
  clear hday ht1 hb1 hb2 e0 e1
  go_wp2
  obtain ⟨⟨y1, y2⟩, ⟨d1, d2⟩, hdays⟩ := HD.out
  refine bodyPost_ret (v := .agg #[.int .i64 y, .int .i64 m, .int .i64 d, .int .i64 (0), .int .i64 0, .int .i64 0, .int .i64 0, .int .i64 0])
    (by simp [results, Tryz.results67, go_sem, hc2, hz]) rfl
    ⟨y, m, d, 0, 0, 0, 0, rfl, ⟨date_right (L := 0) y1 y2 d1 d2 l1 l2, by rw [HN.out]; exact date_nanos (L := 0) hdays HE.out⟩, ?_⟩
  have hle := Nat.le_refl w.heap.size
  exact ((((((((B2.setCell (p := ⟨w.heap.size, 0, none⟩) hle _).setCell (p := ⟨w.heap.size, 1, none⟩) hle _).setCell (p := ⟨w.heap.size, 2, none⟩) hle _).setCell (p := ⟨w.heap.size, 3, none⟩) hle _).setCell (p := ⟨w.heap.size, 4, none⟩) hle _).setCell (p := ⟨w.heap.size, 5, none⟩) hle _).setCell (p := ⟨w.heap.size, 6, none⟩) hle _).setCell (p := ⟨w.heap.size, 7, none⟩) hle _).alloc (by simp; omega) _
set_option maxHeartbeats 1000000 in
theorem date_neg_part (n : Int) (w : World) (ht : Tab w) (q r : Int) (h1 : -8520336000000000000 ≤ n) (h2 : n < 0) (hq : n.tdiv 86400000000000 = q) (hr : n.tmod 86400000000000 = r) (he : n = 86400000000000 * q + r) (r1 : -86400000000000 < r) (r2 : r < 0) :
    Calls Tryz.prog 67 #[.int .i64 n] w (DateAns n w) := by
  have HN := Lib.hid (show clamp n = n by unfold clamp; rw [if_neg (by omega), if_neg (by omega)])
  have HE := Lib.hid (show n = (q - 1) * 86400000000000 + (r + 86400000000000) by omega)
  have l1 : 0 ≤ r + 86400000000000 := by omega
  have l2 : r + 86400000000000 < 86400000000000 := by omega
  have q1 : -98615 ≤ q - 1 := by omega
  have q2 : q ≤ 0 := by omega
  clear he
  have ht1 : Tab (w.alloc (.cells #[.int .i64 0, .int .i64 0, .int .i64 0, .int .i64 0, .int .i64 0, .int .i64 0, .int .i64 0, .int .i64 0] 62)) := ht.alloc _
  have hb1 : Below w.heap.size w (w.alloc (.cells #[.int .i64 0, .int .i64 0, .int .i64 0, .int .i64 0, .int .i64 0, .int .i64 0, .int .i64 0, .int .i64 0] 62)) := (Below.refl _ _).alloc (Nat.le_refl _) _
  have e0 := dby_1700
  have e1 := dby_2251
  clear ht
  go_enter Tryz.func67, Tryz.ntmps67
  go_wp2_with (go_at_call 98; refine (newYear_any _ _ (by omega) (by omega)).mono ?_; rintro e w' ⟨rfl, rfl⟩)
  refine (dateOf_any _ _ ht1 (by omega) (by omega)).mono ?_
  rintro e w2 ⟨y, m, d, rfl, hday, hb2⟩
  have B2 : Below w.heap.size w w2 := hb1.trans (hb2.mono (by simp))
  obtain ⟨hc2, hf2⟩ := bcell hb2
  have hz : w.heap.size < w2.heap.size := by have := hb2.size; simp at this; omega
  have HD := Lib.hid hday
  clear hday ht1 hb1 hb2 e0 e1
  generalize q - 1 = Q at q1 HE HD ⊢
  generalize r + 86400000000000 = L at l1 l2 HE ⊢
  go_wp2
  obtain ⟨⟨y1, y2⟩, ⟨d1, d2⟩, hdays⟩ := HD.out
  refine bodyPost_ret (v := .agg #[.int .i64 y, .int .i64 m, .int .i64 d, .int .i64 (L / 3600000000000), .int .i64 (L % 3600000000000 / 60000000000), .int .i64 (L % 60000000000 / 1000000000), .int .i64 (L % 1000000000 - L % 1000), .int .i64 0])
    (by simp [results, Tryz.results67, go_sem, hc2, hz]) rfl
    ⟨y, m, d, _, _, _, _, rfl, ⟨date_right y1 y2 d1 d2 l1 l2, by rw [HN.out]; exact date_nanos hdays HE.out⟩, ?_⟩
  have hle := Nat.le_refl w.heap.size
  exact ((((((((B2.setCell (p := ⟨w.heap.size, 0, none⟩) hle _).setCell (p := ⟨w.heap.size, 1, none⟩) hle _).setCell (p := ⟨w.heap.size, 2, none⟩) hle _).setCell (p := ⟨w.heap.size, 3, none⟩) hle _).setCell (p := ⟨w.heap.size, 4, none⟩) hle _).setCell (p := ⟨w.heap.size, 5, none⟩) hle _).setCell (p := ⟨w.heap.size, 6, none⟩) hle _).setCell (p := ⟨w.heap.size, 7, none⟩) hle _).alloc (by simp; omega) _
theorem date_mid (n : Int) (w : World) (ht : Tab w) (h1 : -8520336000000000000 ≤ n) (h2 : n < 8867491200000000000) : Calls Tryz.prog 67 #[.int .i64 n] w (DateAns n w) := by
  by_cases h0 : 0 ≤ n
  · exact date_pos n w ht h0 h2
  · obtain ⟨q, r, hq, hr, he, r1, r2⟩ := tdiv_parts n 86400000000000 (by omega) (by omega)
    by_cases hz : r = 0
    · subst hz
      exact date_neg_whole n w ht q h1 (by omega) hq hr he
    · exact date_neg_part n w ht q r h1 (by omega) hq hr he r1 (by omega)
set_option maxHeartbeats 1000000 in
theorem date_low (n : Int) (w : World) (ht : Tab w) (h : n < -8520336000000000000) :
    Calls Tryz.prog 67 #[.int .i64 n] w (DateAns n w) := by
  have HN := Lib.hid (show clamp n = -8520336000000000000 by unfold clamp; rw [if_pos (by omega)])
  have ht1 : Tab (w.alloc (.cells #[.int .i64 0, .int .i64 0, .int .i64 0, .int .i64 0, .int .i64 0, .int .i64 0, .int .i64 0, .int .i64 0] 62)) := ht.alloc _
  have hb1 : Below w.heap.size w (w.alloc (.cells #[.int .i64 0, .int .i64 0, .int .i64 0, .int .i64 0, .int .i64 0, .int .i64 0, .int .i64 0, .int .i64 0] 62)) := (Below.refl _ _).alloc (Nat.le_refl _) _
  have e0 := dby_1700
  have e1 := dby_2251
  clear ht
  go_enter Tryz.func67, Tryz.ntmps67
  go_wp2_with (go_at_call 98; refine (newYear_any _ _ (by omega) (by omega)).mono ?_; rintro e w' ⟨rfl, rfl⟩)
  refine (dateOf_any _ _ ht1 (by omega) (by omega)).mono ?_
  rintro e w2 ⟨y, m, d, rfl, hday, hb2⟩
  have B2 : Below w.heap.size w w2 := hb1.trans (hb2.mono (by simp))
  obtain ⟨hc2, hf2⟩ := bcell hb2
  have hz : w.heap.size < w2.heap.size := by have := hb2.size; simp at this; omega
  have HD := Lib.hid hday
  clear hday ht1 hb1 hb2 e0 e1
  go_wp2
  obtain ⟨⟨y1, y2⟩, ⟨d1, d2⟩, hdays⟩ := HD.out
  refine bodyPost_ret (v := .agg #[.int .i64 y, .int .i64 m, .int .i64 d, .int .i64 0, .int .i64 0, .int .i64 0, .int .i64 0, .int .i64 0])
    (by simp [results, Tryz.results67, go_sem, hc2, hz]) rfl
    ⟨y, m, d, _, _, _, _, rfl, ⟨date_right (L := 0) y1 y2 d1 d2 (by omega) (by omega), by rw [HN.out]; exact date_nanos (L := 0) hdays (by omega)⟩, ?_⟩
  have hle := Nat.le_refl w.heap.size
  exact ((((((((B2.setCell (p := ⟨w.heap.size, 0, none⟩) hle _).setCell (p := ⟨w.heap.size, 1, none⟩) hle _).setCell (p := ⟨w.heap.size, 2, none⟩) hle _).setCell (p := ⟨w.heap.size, 3, none⟩) hle _).setCell (p := ⟨w.heap.size, 4, none⟩) hle _).setCell (p := ⟨w.heap.size, 5, none⟩) hle _).setCell (p := ⟨w.heap.size, 6, none⟩) hle _).setCell (p := ⟨w.heap.size, 7, none⟩) hle _).alloc (by simp; omega) _
set_option maxHeartbeats 1000000 in
theorem date_high (n : Int) (w : World) (ht : Tab w) (h : 8867491200000000000 ≤ n) :
    Calls Tryz.prog 67 #[.int .i64 n] w (DateAns n w) := by
  have HN := Lib.hid (show clamp n = 8867491199999999999 by unfold clamp; rw [if_neg (by omega), if_pos (by omega)])
  have ht1 : Tab (w.alloc (.cells #[.int .i64 0, .int .i64 0, .int .i64 0, .int .i64 0, .int .i64 0, .int .i64 0, .int .i64 0, .int .i64 0] 62)) := ht.alloc _
  have hb1 : Below w.heap.size w (w.alloc (.cells #[.int .i64 0, .int .i64 0, .int .i64 0, .int .i64 0, .int .i64 0, .int .i64 0, .int .i64 0, .int .i64 0] 62)) := (Below.refl _ _).alloc (Nat.le_refl _) _
  have e0 := dby_1700
  have e1 := dby_2251
  clear ht
  go_enter Tryz.func67, Tryz.ntmps67
  go_wp2_with (go_at_call 98; refine (newYear_any _ _ (by omega) (by omega)).mono ?_; rintro e w' ⟨rfl, rfl⟩)
  refine (dateOf_any _ _ ht1 (by omega) (by omega)).mono ?_
  rintro e w2 ⟨y, m, d, rfl, hday, hb2⟩
  have B2 : Below w.heap.size w w2 := hb1.trans (hb2.mono (by simp))
  obtain ⟨hc2, hf2⟩ := bcell hb2
  have hz : w.heap.size < w2.heap.size := by have := hb2.size; simp at this; omega
  have HD := Lib.hid hday
  clear hday ht1 hb1 hb2 e0 e1
  go_wp2
  obtain ⟨⟨y1, y2⟩, ⟨d1, d2⟩, hdays⟩ := HD.out
  refine bodyPost_ret (v := .agg #[.int .i64 y, .int .i64 m, .int .i64 d, .int .i64 23, .int .i64 59, .int .i64 59, .int .i64 999999000, .int .i64 0])
    (by simp [results, Tryz.results67, go_sem, hc2, hz]) rfl
    ⟨y, m, d, _, _, _, _, rfl, ⟨date_right (L := 86399999999999) y1 y2 d1 d2 (by omega) (by omega), by rw [HN.out]; exact date_nanos (L := 86399999999999) hdays (by omega)⟩, ?_⟩
  have hle := Nat.le_refl w.heap.size
  exact ((((((((B2.setCell (p := ⟨w.heap.size, 0, none⟩) hle _).setCell (p := ⟨w.heap.size, 1, none⟩) hle _).setCell (p := ⟨w.heap.size, 2, none⟩) hle _).setCell (p := ⟨w.heap.size, 3, none⟩) hle _).setCell (p := ⟨w.heap.size, 4, none⟩) hle _).setCell (p := ⟨w.heap.size, 5, none⟩) hle _).setCell (p := ⟨w.heap.size, 6, none⟩) hle _).setCell (p := ⟨w.heap.size, 7, none⟩) hle _).alloc (by simp; omega) _
theorem date_any (n : Int) (w : World) (ht : Tab w) : Calls Tryz.prog 67 #[.int .i64 n] w (DateAns n w) := by
  by_cases h1 : n < -8520336000000000000
  · exact date_low n w ht h1
  · by_cases h2 : 8867491200000000000 ≤ n
    · exact date_high n w ht h2
    · exact date_mid n w ht (by omega) (by omega)
end Go.Proofs.YtnaijahhogndjaaGreatDoor.Cal
