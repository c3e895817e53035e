/- The texts CalDate, Ev, Find, one behind the other. -/
import Derived.Test.YtnaijahhogndjaaGreatDoorB2
import Derived.Test.YtnaijahhogndjaaGreatDoorB1
/- What Date answers. -/
namespace Go.Proofs.YtnaijahhogndjaaGreatDoor.Cal
open Go.ChangeShapes Go.WideShapes Go.ChangeAt Go.RowKit

/-- The date of nanoseconds. -/
def DateIs (N y m d h i s k : Int) : Prop := rightB y m d h i s k 0 = true ∧ nanosI y m d h i s k 0 = N - N % 1000
def DateAns (n : Int) (w : World) (e : Ending) (w' : World) : Prop :=
  ∃ y m d h i s k : Int, e = .returned (.agg #[.int .i64 y, .int .i64 m, .int .i64 d, .int .i64 h, .int .i64 i, .int .i64 s, .int .i64 k, .int .i64 0]) ∧ DateIs (clamp n) y m d h i s k ∧ Below w.heap.size w w'
theorem tdiv_parts (n D : Int) (hD : 0 < D) (h : n < 0) : ∃ q r : Int, n.tdiv D = q ∧ n.tmod D = r ∧ n = D * q + r ∧ -D < r ∧ r ≤ 0 := by
  refine ⟨_, _, rfl, rfl, (Int.mul_tdiv_add_tmod n D).symm, ?_, ?_⟩
  · have e : n.tmod D = -((-n).tmod D) := by rw [Int.neg_tmod]; omega
    have := Int.tmod_lt_of_pos (-n) hD
    omega
  · have e : n.tmod D = -((-n).tmod D) := by rw [Int.neg_tmod]; omega
    have := Int.tmod_nonneg D (show 0 ≤ -n by omega)
    omega
set_option maxHeartbeats 1000000 in
theorem date_pos (n : Int) (w : World) (ht : Tab w) (h1 : 0 ≤ n) (h2 : n < 8867491200000000000) :
    Calls Tryz.prog 67 #[.int .i64 n] w (DateAns n w) := by
  have HN := Lib.hid (show clamp n = n by unfold clamp; rw [if_neg (by omega), if_neg (by omega)])
  have HE := Lib.hid (show n = n / 86400000000000 * 86400000000000 + n % 86400000000000 by omega)
  have l0 : ¬ n % 86400000000000 < 0 := by omega
  have l1 : 0 ≤ n % 86400000000000 := by omega
  have l2 : n % 86400000000000 < 86400000000000 := by omega
  have q1 : 0 ≤ n / 86400000000000 := by omega
  have q2 : n / 86400000000000 ≤ 102632 := by omega
  have ht1 : Tab (w.alloc (.cells #[.int .i64 0, .int .i64 0, .int .i64 0, .int .i64 0, .int .i64 0, .int .i64 0, .int .i64 0, .int .i64 0] 62)) := ht.alloc _
  have hb1 : Below w.heap.size w (w.alloc (.cells #[.int .i64 0, .int .i64 0, .int .i64 0, .int .i64 0, .int .i64 0, .int .i64 0, .int .i64 0, .int .i64 0] 62)) := (Below.refl _ _).alloc (Nat.le_refl _) _
  have e0 := dby_1700
  have e1 := dby_2251
  clear ht
  go_enter Tryz.func67, Tryz.ntmps67
  go_wp2_with (go_at_call 98; refine (newYear_any _ _ (by omega) (by omega)).mono ?_; rintro e w' ⟨rfl, rfl⟩)
  refine (dateOf_any _ _ ht1 (by omega) (by omega)).mono ?_
  rintro e w2 ⟨y, m, d, rfl, hday, hb2⟩
  have B2 : Below w.heap.size w w2 := hb1.trans (hb2.mono (by simp))
  obtain ⟨hc2, hf2⟩ := bcell hb2
  have hz : w.heap.size < w2.heap.size := by have := hb2.size; simp at this; omega
  have HD := Lib.hid hday
  clear hday ht1 hb1 hb2 e0 e1 l0
  generalize n / 86400000000000 = Q at q1 q2 HE HD ⊢
  generalize n % 86400000000000 = L at l1 l2 HE ⊢
  go_wp2
  obtain ⟨⟨y1, y2⟩, ⟨d1, d2⟩, hdays⟩ := HD.out
  refine bodyPost_ret (v := .agg #[.int .i64 y, .int .i64 m, .int .i64 d, .int .i64 (L / 3600000000000), .int .i64 (L % 3600000000000 / 60000000000), .int .i64 (L % 60000000000 / 1000000000), .int .i64 (L % 1000000000 - L % 1000), .int .i64 0])
    (by simp [results, Tryz.results67, go_sem, hc2, hz]) rfl
    ⟨y, m, d, _, _, _, _, rfl, ⟨date_right y1 y2 d1 d2 l1 l2, by rw [HN.out]; exact date_nanos hdays HE.out⟩, ?_⟩
  have hle := Nat.le_refl w.heap.size
  exact ((((((((B2.setCell (p := ⟨w.heap.size, 0, none⟩) hle _).setCell (p := ⟨w.heap.size, 1, none⟩) hle _).setCell (p := ⟨w.heap.size, 2, none⟩) hle _).setCell (p := ⟨w.heap.size, 3, none⟩) hle _).setCell (p := ⟨w.heap.size, 4, none⟩) hle _).setCell (p := ⟨w.heap.size, 5, none⟩) hle _).setCell (p := ⟨w.heap.size, 6, none⟩) hle _).setCell (p := ⟨w.heap.size, 7, none⟩) hle _).alloc (by simp; omega) _
set_option maxHeartbeats 1000000 in
theorem date_neg_whole (n : Int) (w : World) (ht : Tab w) (q : Int) (h1 : -8520336000000000000 ≤ n) (h2 : n < 0) (hq : n.tdiv 86400000000000 = q) (hr : n.tmod 86400000000000 = 0) (he : n = 86400000000000 * q + 0) :
    Calls Tryz.prog 67 #[.int .i64 n] w (DateAns n w) := by
  have HN := Lib.hid (show clamp n = n by unfold clamp; rw [if_neg (by omega), if_neg (by omega)])
  obtain ⟨L, hL⟩ : ∃ L : Int, L = 0 := ⟨0, rfl⟩
  have HE := Lib.hid (show n = q * 86400000000000 + L by omega)
  have l1 : 0 ≤ L := by omega
  have l2 : L < 86400000000000 := by omega
  have q1 : -98615 ≤ q := by omega
  have q2 : q ≤ 0 := by omega
  clear he
  have ht1 : Tab (w.alloc (.cells #[.int .i64 0, .int .i64 0, .int .i64 0, .int .i64 0, .int .i64 0, .int .i64 0, .int .i64 0, .int .i64 0] 62)) := ht.alloc _
  have hb1 : Below w.heap.size w (w.alloc (.cells #[.int .i64 0, .int .i64 0, .int .i64 0, .int .i64 0, .int .i64 0, .int .i64 0, .int .i64 0, .int .i64 0] 62)) := (Below.refl _ _).alloc (Nat.le_refl _) _
  have e0 := dby_1700
  have e1 := dby_2251
  clear ht
  go_enter Tryz.func67, Tryz.ntmps67
  go_wp2_with (go_at_call 98; refine (newYear_any _ _ (by omega) (by omega)).mono ?_; rintro e w' ⟨rfl, rfl⟩)
  refine (dateOf_any _ _ ht1 (by omega) (by omega)).mono ?_
  rintro e w2 ⟨y, m, d, rfl, hday, hb2⟩
  have B2 : Below w.heap.size w w2 := hb1.trans (hb2.mono (by simp))
  obtain ⟨hc2, hf2⟩ := bcell hb2
  have hz : w.heap.size < w2.heap.size := by have := hb2.size; simp at this; omega
  have HD := Lib.hid hday
  subst hL
  clear hday ht1 hb1 hb2 e0 e1
  go_wp2
  obtain ⟨⟨y1, y2⟩, ⟨d1, d2⟩, hdays⟩ := HD.out
  refine bodyPost_ret (v := .agg #[.int .i64 y, .int .i64 m, .int .i64 d, .int .i64 (0), .int .i64 0, .int .i64 0, .int .i64 0, .int .i64 0])
    (by simp [results, Tryz.results67, go_sem, hc2, hz]) rfl
    ⟨y, m, d, 0, 0, 0, 0, rfl, ⟨date_right (L := 0) y1 y2 d1 d2 l1 l2, by rw [HN.out]; exact date_nanos (L := 0) hdays HE.out⟩, ?_⟩
  have hle := Nat.le_refl w.heap.size
  exact ((((((((B2.setCell (p := ⟨w.heap.size, 0, none⟩) hle _).setCell (p := ⟨w.heap.size, 1, none⟩) hle _).setCell (p := ⟨w.heap.size, 2, none⟩) hle _).setCell (p := ⟨w.heap.size, 3, none⟩) hle _).setCell (p := ⟨w.heap.size, 4, none⟩) hle _).setCell (p := ⟨w.heap.size, 5, none⟩) hle _).setCell (p := ⟨w.heap.size, 6, none⟩) hle _).setCell (p := ⟨w.heap.size, 7, none⟩) hle _).alloc (by simp; omega) _
set_option maxHeartbeats 1000000 in
theorem date_neg_part (n : Int) (w : World) (ht : Tab w) (q r : Int) (h1 : -8520336000000000000 ≤ n) (h2 : n < 0) (hq : n.tdiv 86400000000000 = q) (hr : n.tmod 86400000000000 = r) (he : n = 86400000000000 * q + r) (r1 : -86400000000000 < r) (r2 : r < 0) :
    Calls Tryz.prog 67 #[.int .i64 n] w (DateAns n w) := by
  have HN := Lib.hid (show clamp n = n by unfold clamp; rw [if_neg (by omega), if_neg (by omega)])
  have HE := Lib.hid (show n = (q - 1) * 86400000000000 + (r + 86400000000000) by omega)
  have l1 : 0 ≤ r + 86400000000000 := by omega
  have l2 : r + 86400000000000 < 86400000000000 := by omega
  have q1 : -98615 ≤ q - 1 := by omega
  have q2 : q ≤ 0 := by omega
  clear he
  have ht1 : Tab (w.alloc (.cells #[.int .i64 0, .int .i64 0, .int .i64 0, .int .i64 0, .int .i64 0, .int .i64 0, .int .i64 0, .int .i64 0] 62)) := ht.alloc _
  have hb1 : Below w.heap.size w (w.alloc (.cells #[.int .i64 0, .int .i64 0, .int .i64 0, .int .i64 0, .int .i64 0, .int .i64 0, .int .i64 0, .int .i64 0] 62)) := (Below.refl _ _).alloc (Nat.le_refl _) _
  have e0 := dby_1700
  have e1 := dby_2251
  clear ht
  go_enter Tryz.func67, Tryz.ntmps67
  go_wp2_with (go_at_call 98; refine (newYear_any _ _ (by omega) (by omega)).mono ?_; rintro e w' ⟨rfl, rfl⟩)
  refine (dateOf_any _ _ ht1 (by omega) (by omega)).mono ?_
  rintro e w2 ⟨y, m, d, rfl, hday, hb2⟩
  have B2 : Below w.heap.size w w2 := hb1.trans (hb2.mono (by simp))
  obtain ⟨hc2, hf2⟩ := bcell hb2
  have hz : w.heap.size < w2.heap.size := by have := hb2.size; simp at this; omega
  have HD := Lib.hid hday
  clear hday ht1 hb1 hb2 e0 e1
  generalize q - 1 = Q at q1 HE HD ⊢
  generalize r + 86400000000000 = L at l1 l2 HE ⊢
  go_wp2
  obtain ⟨⟨y1, y2⟩, ⟨d1, d2⟩, hdays⟩ := HD.out
  refine bodyPost_ret (v := .agg #[.int .i64 y, .int .i64 m, .int .i64 d, .int .i64 (L / 3600000000000), .int .i64 (L % 3600000000000 / 60000000000), .int .i64 (L % 60000000000 / 1000000000), .int .i64 (L % 1000000000 - L % 1000), .int .i64 0])
    (by simp [results, Tryz.results67, go_sem, hc2, hz]) rfl
    ⟨y, m, d, _, _, _, _, rfl, ⟨date_right y1 y2 d1 d2 l1 l2, by rw [HN.out]; exact date_nanos hdays HE.out⟩, ?_⟩
  have hle := Nat.le_refl w.heap.size
  exact ((((((((B2.setCell (p := ⟨w.heap.size, 0, none⟩) hle _).setCell (p := ⟨w.heap.size, 1, none⟩) hle _).setCell (p := ⟨w.heap.size, 2, none⟩) hle _).setCell (p := ⟨w.heap.size, 3, none⟩) hle _).setCell (p := ⟨w.heap.size, 4, none⟩) hle _).setCell (p := ⟨w.heap.size, 5, none⟩) hle _).setCell (p := ⟨w.heap.size, 6, none⟩) hle _).setCell (p := ⟨w.heap.size, 7, none⟩) hle _).alloc (by simp; omega) _
theorem date_mid (n : Int) (w : World) (ht : Tab w) (h1 : -8520336000000000000 ≤ n) (h2 : n < 8867491200000000000) : Calls Tryz.prog 67 #[.int .i64 n] w (DateAns n w) := by
  by_cases h0 : 0 ≤ n
  · exact date_pos n w ht h0 h2
  · obtain ⟨q, r, hq, hr, he, r1, r2⟩ := tdiv_parts n 86400000000000 (by omega) (by omega)
    by_cases hz : r = 0
    · subst hz
      exact date_neg_whole n w ht q h1 (by omega) hq hr he
    · exact date_neg_part n w ht q r h1 (by omega) hq hr he r1 (by omega)
set_option maxHeartbeats 1000000 in
theorem date_low (n : Int) (w : World) (ht : Tab w) (h : n < -8520336000000000000) :
    Calls Tryz.prog 67 #[.int .i64 n] w (DateAns n w) := by
  have HN := Lib.hid (show clamp n = -8520336000000000000 by unfold clamp; rw [if_pos (by omega)])
  have ht1 : Tab (w.alloc (.cells #[.int .i64 0, .int .i64 0, .int .i64 0, .int .i64 0, .int .i64 0, .int .i64 0, .int .i64 0, .int .i64 0] 62)) := ht.alloc _
  have hb1 : Below w.heap.size w (w.alloc (.cells #[.int .i64 0, .int .i64 0, .int .i64 0, .int .i64 0, .int .i64 0, .int .i64 0, .int .i64 0, .int .i64 0] 62)) := (Below.refl _ _).alloc (Nat.le_refl _) _
  have e0 := dby_1700
  have e1 := dby_2251
  clear ht
  go_enter Tryz.func67, Tryz.ntmps67
  go_wp2_with (go_at_call 98; refine (newYear_any _ _ (by omega) (by omega)).mono ?_; rintro e w' ⟨rfl, rfl⟩)
  refine (dateOf_any _ _ ht1 (by omega) (by omega)).mono ?_
  rintro e w2 ⟨y, m, d, rfl, hday, hb2⟩
  have B2 : Below w.heap.size w w2 := hb1.trans (hb2.mono (by simp))
  obtain ⟨hc2, hf2⟩ := bcell hb2
  have hz : w.heap.size < w2.heap.size := by have := hb2.size; simp at this; omega
  have HD := Lib.hid hday
  clear hday ht1 hb1 hb2 e0 e1
  go_wp2
  obtain ⟨⟨y1, y2⟩, ⟨d1, d2⟩, hdays⟩ := HD.out
  refine bodyPost_ret (v := .agg #[.int .i64 y, .int .i64 m, .int .i64 d, .int .i64 0, .int .i64 0, .int .i64 0, .int .i64 0, .int .i64 0])
    (by simp [results, Tryz.results67, go_sem, hc2, hz]) rfl
    ⟨y, m, d, _, _, _, _, rfl, ⟨date_right (L := 0) y1 y2 d1 d2 (by omega) (by omega), by rw [HN.out]; exact date_nanos (L := 0) hdays (by omega)⟩, ?_⟩
  have hle := Nat.le_refl w.heap.size
  exact ((((((((B2.setCell (p := ⟨w.heap.size, 0, none⟩) hle _).setCell (p := ⟨w.heap.size, 1, none⟩) hle _).setCell (p := ⟨w.heap.size, 2, none⟩) hle _).setCell (p := ⟨w.heap.size, 3, none⟩) hle _).setCell (p := ⟨w.heap.size, 4, none⟩) hle _).setCell (p := ⟨w.heap.size, 5, none⟩) hle _).setCell (p := ⟨w.heap.size, 6, none⟩) hle _).setCell (p := ⟨w.heap.size, 7, none⟩) hle _).alloc (by simp; omega) _
set_option maxHeartbeats 1000000 in
theorem date_high (n : Int) (w : World) (ht : Tab w) (h : 8867491200000000000 ≤ n) :
    Calls Tryz.prog 67 #[.int .i64 n] w (DateAns n w) := by
  have HN := Lib.hid (show clamp n = 8867491199999999999 by unfold clamp; rw [if_neg (by omega), if_pos (by omega)])
  have ht1 : Tab (w.alloc (.cells #[.int .i64 0, .int .i64 0, .int .i64 0, .int .i64 0, .int .i64 0, .int .i64 0, .int .i64 0, .int .i64 0] 62)) := ht.alloc _
  have hb1 : Below w.heap.size w (w.alloc (.cells #[.int .i64 0, .int .i64 0, .int .i64 0, .int .i64 0, .int .i64 0, .int .i64 0, .int .i64 0, .int .i64 0] 62)) := (Below.refl _ _).alloc (Nat.le_refl _) _
  have e0 := dby_1700
  have e1 := dby_2251
  clear ht
  go_enter Tryz.func67, Tryz.ntmps67
  go_wp2_with (go_at_call 98; refine (newYear_any _ _ (by omega) (by omega)).mono ?_; rintro e w' ⟨rfl, rfl⟩)
  refine (dateOf_any _ _ ht1 (by omega) (by omega)).mono ?_
  rintro e w2 ⟨y, m, d, rfl, hday, hb2⟩
  have B2 : Below w.heap.size w w2 := hb1.trans (hb2.mono (by simp))
  obtain ⟨hc2, hf2⟩ := bcell hb2
  have hz : w.heap.size < w2.heap.size := by have := hb2.size; simp at this; omega
  have HD := Lib.hid hday
  clear hday ht1 hb1 hb2 e0 e1
  go_wp2
  obtain ⟨⟨y1, y2⟩, ⟨d1, d2⟩, hdays⟩ := HD.out
  refine bodyPost_ret (v := .agg #[.int .i64 y, .int .i64 m, .int .i64 d, .int .i64 23, .int .i64 59, .int .i64 59, .int .i64 999999000, .int .i64 0])
    (by simp [results, Tryz.results67, go_sem, hc2, hz]) rfl
    ⟨y, m, d, _, _, _, _, rfl, ⟨date_right (L := 86399999999999) y1 y2 d1 d2 (by omega) (by omega), by rw [HN.out]; exact date_nanos (L := 86399999999999) hdays (by omega)⟩, ?_⟩
  have hle := Nat.le_refl w.heap.size
  exact ((((((((B2.setCell (p := ⟨w.heap.size, 0, none⟩) hle _).setCell (p := ⟨w.heap.size, 1, none⟩) hle _).setCell (p := ⟨w.heap.size, 2, none⟩) hle _).setCell (p := ⟨w.heap.size, 3, none⟩) hle _).setCell (p := ⟨w.heap.size, 4, none⟩) hle _).setCell (p := ⟨w.heap.size, 5, none⟩) hle _).setCell (p := ⟨w.heap.size, 6, none⟩) hle _).setCell (p := ⟨w.heap.size, 7, none⟩) hle _).alloc (by simp; omega) _
theorem date_any (n : Int) (w : World) (ht : Tab w) : Calls Tryz.prog 67 #[.int .i64 n] w (DateAns n w) := by
  by_cases h1 : n < -8520336000000000000
  · exact date_low n w ht h1
  · by_cases h2 : 8867491200000000000 ≤ n
    · exact date_high n w ht h2
    · exact date_mid n w ht (by omega) (by omega)
end Go.Proofs.YtnaijahhogndjaaGreatDoor.Cal
/- How a message's elements lie in memory; the tables that the functions read. No call is spoken of. -/
namespace Go.Proofs.YtnaijahhogndjaaGreatDoor
open Go.ChangeShapes Go.WideShapes Go.ChangeAt Go.RowKit

abbrev Prm := ByteArray × ByteArray
abbrev Elm := ByteArray × List Prm
/-- A slice's value holds these parameters. -/
def PrmsAt (w : World) (v : Value) (ps : List Prm) : Prop :=
  ∃ (a : Option Addr) (c : Nat), v = .slice a ps.length c ∧ (0 < ps.length → ∃ b o : Nat, a = some ⟨b, o, none⟩ ∧ b < w.heap.size ∧
    ∀ j p, ps[j]? = some p → w.cell? ⟨b, o + 2 * j, none⟩ = some (.string p.1) ∧ w.cell? ⟨b, o + 2 * j + 1, none⟩ = some (.string p.2))
/-- A slice's value holds these elements. -/
def ElmsAt (w : World) (v : Value) (es : List Elm) : Prop :=
  ∃ (a : Option Addr) (c : Nat), v = .slice a es.length c ∧ (0 < es.length → ∃ b o : Nat, a = some ⟨b, o, none⟩ ∧ b < w.heap.size ∧
    ∀ j e, es[j]? = some e → ∃ lv, w.cell? ⟨b, o + 2 * j, none⟩ = some (.string e.1) ∧ w.cell? ⟨b, o + 2 * j + 1, none⟩ = some lv ∧ PrmsAt w lv e.2)
theorem PrmsAt.below {w w' : World} {v : Value} {ps : List Prm} (h : PrmsAt w v ps) (hb : Below w.heap.size w w') : PrmsAt w' v ps := by
  obtain ⟨a, c, rfl, h⟩ := h
  refine ⟨a, c, rfl, fun hn => ?_⟩
  obtain ⟨b, o, rfl, hlt, hc⟩ := h hn
  exact ⟨b, o, rfl, Nat.lt_of_lt_of_le hlt hb.size, fun j p hp => ⟨(hb.cell (p := ⟨b, _, none⟩) hlt).trans (hc j p hp).1, (hb.cell (p := ⟨b, _, none⟩) hlt).trans (hc j p hp).2⟩⟩
theorem ElmsAt.below {w w' : World} {v : Value} {es : List Elm} (h : ElmsAt w v es) (hb : Below w.heap.size w w') : ElmsAt w' v es := by
  obtain ⟨a, c, rfl, h⟩ := h
  refine ⟨a, c, rfl, fun hn => ?_⟩
  obtain ⟨b, o, rfl, hlt, hc⟩ := h hn
  refine ⟨b, o, rfl, Nat.lt_of_lt_of_le hlt hb.size, fun j e he => ?_⟩
  obtain ⟨lv, c1, c2, hp⟩ := hc j e he
  exact ⟨lv, (hb.cell (p := ⟨b, _, none⟩) hlt).trans c1, (hb.cell (p := ⟨b, _, none⟩) hlt).trans c2, hp.below hb⟩
theorem PrmsAt.nil (w : World) (a : Option Addr) (c : Nat) : PrmsAt w (.slice a 0 c) [] := ⟨a, c, rfl, fun h => absurd h (by decide)⟩
theorem ElmsAt.nil (w : World) (a : Option Addr) (c : Nat) : ElmsAt w (.slice a 0 c) [] := ⟨a, c, rfl, fun h => absurd h (by decide)⟩

/-- The tables stand: the months' lengths, and those of unicode/utf8. -/
def Std (w : World) : Prop := Cal.Tab w ∧ Lib.Utf8Tabs 0 1 w
theorem Std.below {w w' : World} (h : Std w) (hb : Below w.heap.size w w') : Std w' := ⟨h.1.below hb, Utf8Tabs_below h.2 hb⟩
theorem valid_any (s : ByteArray) (w : World) (hs : s.size ≤ 9223372036854775807) (h : Std w) :
    Calls Tryz.prog 44 #[.string s] w fun e w' => e = .returned (.bool (Lib.validD s.data.toList)) ∧ Below w.heap.size w w' := Tryz.utf8_ValidString s w hs h.2

/-! ### the first place at which something holds -/
def fstI {α : Type} (p : α → Bool) (l : List α) : Int := if l.findIdx p < l.length then (l.findIdx p : Int) else -1
theorem fstI_at {α : Type} {p : α → Bool} {l : List α} {k : Nat} {x : α} (hx : l[k]? = some x) (hp : p x = true) (hn : ∀ y ∈ l.take k, p y = false) : fstI p l = k := by
  have hk : k < l.length := by
    rcases Nat.lt_or_ge k l.length with h | h
    · exact h
    · rw [List.getElem?_eq_none h] at hx; cases hx
  have hxe : l[k] = x := by rw [List.getElem?_eq_getElem hk] at hx; exact Option.some.inj hx
  have e : l.findIdx p = k := by
    rw [List.findIdx_eq hk]
    refine ⟨by rw [hxe]; exact hp, fun j hj => ?_⟩
    have := hn l[j] (by rw [List.mem_take_iff_getElem]; exact ⟨j, by omega, rfl⟩)
    simpa using this
  unfold fstI
  rw [e, if_pos hk]
theorem fstI_none {α : Type} {p : α → Bool} {l : List α} (h : ∀ y ∈ l, p y = false) : fstI p l = -1 := by
  unfold fstI
  rw [if_neg]
  intro hlt
  have := List.findIdx_getElem (w := hlt)
  rw [h _ (List.getElem_mem hlt)] at this
  cases this
theorem fstI_any {α : Type} (p : α → Bool) (l : List α) : (0 ≤ fstI p l) = (l.any p = true) := by
  apply propext
  unfold fstI
  split
  · rename_i h
    constructor
    · intro _
      rw [List.any_eq_true]
      exact ⟨l[l.findIdx p], List.getElem_mem h, List.findIdx_getElem⟩
    · intro _; omega
  · rename_i h
    constructor
    · intro h'; omega
    · intro hx
      rw [List.any_eq_true] at hx
      obtain ⟨x, hx1, hx2⟩ := hx
      exact absurd (List.findIdx_lt_length_of_exists ⟨x, hx1, hx2⟩) h
end Go.Proofs.YtnaijahhogndjaaGreatDoor
/- Where slices.IndexFunc finds the first element, or parameter, of which something holds; whether slices.ContainsFunc finds one. -/
namespace Go.Proofs.YtnaijahhogndjaaGreatDoor
open Go.ChangeShapes Go.WideShapes Go.ChangeAt Go.RowKit

def longB (e : Elm) : Bool := decide (64 < e.2.length)
theorem bcell {W w1 : World} (hb : Below W.heap.size W w1) : (∀ b o, b < W.heap.size → w1.cell? ⟨b, o, none⟩ = W.cell? ⟨b, o, none⟩) ∧ (∀ b o, b < W.heap.size → w1.frozen? ⟨b, o, none⟩ = W.frozen? ⟨b, o, none⟩) :=
  ⟨fun b o h => hb.cell (p := ⟨b, o, none⟩) h, fun b o h => hb.frozen (p := ⟨b, o, none⟩) h⟩
theorem long_any (id : ByteArray) (lv : Value) (ps : List Prm) (w : World) (h : PrmsAt w lv ps) (hs : ps.length ≤ 17592186044416) :
    Calls Tryz.prog 46 #[.agg #[.string id, lv]] w fun e w' => e = .returned (.bool (longB (id, ps))) ∧ Below w.heap.size w w' := by
  obtain ⟨a, c, rfl, _⟩ := h
  unfold longB
  show Calls _ _ _ _ fun e w' => e = .returned (.bool (decide (64 < ps.length))) ∧ _
  generalize ps.length = n at hs ⊢
  have hb : Below w.heap.size w (w.alloc (.cells #[.string id, .slice a n c] 52)) := (Below.refl _ _).alloc (Nat.le_refl _) _
  by_cases hn : 64 < n
  · have hn' : (64 : Int) < (n : Int) := by omega
    rw [decide_eq_true hn]
    clear hn
    go_enter Tryz.func46, Tryz.ntmps46
    go_wp2
    go_ret
    exact ⟨rfl, hb⟩
  · have hn' : ¬ (64 : Int) < (n : Int) := by omega
    rw [decide_eq_false hn]
    clear hn
    go_enter Tryz.func46, Tryz.ntmps46
    go_wp2
    go_ret
    exact ⟨rfl, hb⟩
set_option maxHeartbeats 1000000 in
theorem idx_long (es : List Elm) (v : Value) (w : World) (h : ElmsAt w v es) (hs : es.length ≤ 17592186044416) (hl : ∀ e ∈ es, e.2.length ≤ 17592186044416) :
    Calls Tryz.prog 36 #[v, .func (.func 46) #[] #[]] w fun e w' => e = .returned (.int .i64 (fstI (longB) es)) ∧ Below w.heap.size w w' := by
  obtain ⟨a, c, rfl, hmem⟩ := h
  have HM := Lib.hid hmem
  clear hmem
  obtain ⟨n, hn⟩ : ∃ n, es.length = n := ⟨_, rfl⟩
  have HN := Lib.hid hn
  rw [hn] at hs ⊢
  clear hn
  go_enter Tryz.func36, Tryz.ntmps36
  go_wp2
  go_loopw [8] (fun i wr => ∃ k : Nat, k ≤ n ∧ i = .int .i64 k ∧ (∀ y ∈ es.take k, (longB) y = false) ∧ Below w.heap.size w wr) (fun i _ => n - (intOf i).toNat)
  case atStart => exact ⟨0, by omega, rfl, by simp, Below.refl _ _⟩
  case round =>
    obtain ⟨k, hk, rfl, hall, hB⟩ := hrel
    have HA := Lib.hid hall
    clear hall
    by_cases hlt : k < n
    · obtain ⟨x, hx⟩ : ∃ x, es[k]? = some x := ⟨es[k]'(by rw [HN.out]; exact hlt), List.getElem?_eq_getElem _⟩
      obtain ⟨b, o, ha, hb, hc⟩ := HM.out (by rw [HN.out]; omega)
      subst ha
      have hbw : b < wr.heap.size := Nat.lt_of_lt_of_le hb hB.size
      obtain ⟨lv, c1, c2, hp⟩ := hc k x hx
      have d1 : wr.cell? ⟨b, o + 2 * k, none⟩ = some (.string x.1) := (hB.cell (p := ⟨b, _, none⟩) hb).trans c1
      have d2 : wr.cell? ⟨b, o + 2 * k + 1, none⟩ = some lv := (hB.cell (p := ⟨b, _, none⟩) hb).trans c2
      have hp' := hp.below hB
      obtain ⟨x1, x2⟩ := x
      have HC := Lib.hid (long_any x1 lv x2 wr hp' (hl _ (List.mem_of_getElem? hx)))
      have HX := Lib.hid hx
      clear hc c1 c2 hp hp' hx
      have e1 : o + k * 2 = o + 2 * k := by omega
      simp only at d1 d2
      by_cases hpx : (longB) (x1, x2) = true
      · have HR := Lib.hid (fstI_at HX.out hpx HA.out)
        rw [hpx] at HC
        clear hpx
        go_wp2_with fail
        refine HC.out.mono ?_
        rintro e w' ⟨rfl, hb2⟩
        have B2 := hB.trans (hb2.mono hB.size)
        go_wp2
        go_ret
        exact ⟨by rw [HR.out]; rfl, B2⟩
      · have hpf : (longB) (x1, x2) = false := by simpa using hpx
        have HA2 := Lib.hid (show ∀ y ∈ es.take (k + 1), (longB) y = false by
          intro y hy
          rw [List.take_add_one, HX.out, List.mem_append] at hy
          rcases hy with hy | hy
          · exact HA.out y hy
          · simp at hy
            rw [hy]; exact hpf)
        rw [hpf] at HC
        clear hpx hpf
        go_wp2_with fail
        refine HC.out.mono ?_
        rintro e w' ⟨rfl, hb2⟩
        have B2 := hB.trans (hb2.mono hB.size)
        go_wp2
        go_roundw
        case rel => exact ⟨k + 1, by omega, by go_num, HA2.out, B2⟩
        case measure => simp [intOf]; omega
    · obtain rfl : k = n := by omega
      have HR := Lib.hid (show fstI (longB) es = -1 from fstI_none (fun y hy => HA.out y (by rw [← HN.out, List.take_length]; exact hy)))
      go_wp2
      go_ret
      exact ⟨by rw [HR.out]; rfl, hB⟩

/-! ### parameters that may not be -/
def wrongB (p : Prm) : Bool := !(nameB p.1.data.toList) || !(Lib.validD p.2.data.toList)
theorem wrong_any (x1 x2 : ByteArray) (w : World) (hS : Std w) (h1 : x1.size ≤ 9223372036854775807) (h2 : x2.size ≤ 9223372036854775807) :
    Calls Tryz.prog 75 #[.agg #[.string x1, .string x2]] w fun e w' => e = .returned (.bool (wrongB (x1, x2))) ∧ Below w.heap.size w w' := by
  have hb : Below w.heap.size w (w.alloc (.cells #[.string x1, .string x2] 54)) := (Below.refl _ _).alloc (Nat.le_refl _) _
  have hS1 := hS.below hb
  have HN := Lib.hid (name_any x1 (w.alloc (.cells #[.string x1, .string x2] 54)) h1)
  have HV := Lib.hid (fun W (hW : Std W) => valid_any x2 W h2 hW)
  unfold wrongB
  show Calls _ _ _ _ fun e w' => e = .returned (.bool (!(nameB x1.data.toList) || !(Lib.validD x2.data.toList))) ∧ _
  generalize nameB x1.data.toList = b1 at HN ⊢
  generalize Lib.validD x2.data.toList = b2 at HV ⊢
  cases b1 with
  | false =>
    go_enter Tryz.func75, Tryz.ntmps75
    go_wp2_with fail
    refine HN.out.mono ?_
    rintro e w' ⟨rfl, hb2⟩
    have B2 := hb.trans (hb2.mono (by simp))
    go_wp2
    go_ret
    exact ⟨rfl, B2⟩
  | true =>
    go_enter Tryz.func75, Tryz.ntmps75
    go_wp2_with fail
    refine HN.out.mono ?_
    rintro e w2 ⟨rfl, hb2⟩
    have B2 := hb.trans (hb2.mono (by simp))
    have hS2 := hS1.below hb2
    obtain ⟨hc2, hf2⟩ := bcell hb2
    have hz : w.heap.size < w2.heap.size := by have := hb2.size; simp at this; omega
    clear hb2
    go_wp2_with fail
    refine (HV.out _ hS2).mono ?_
    rintro e w3 ⟨rfl, hb3⟩
    have B3 := B2.trans (hb3.mono B2.size)
    go_wp2
    go_ret
    exact ⟨by simp, B3⟩

/-! ### elements of an Id, parameters of a name -/
def isIdB (id : ByteArray) (e : Elm) : Bool := decide (e.1 = id)
def isNmB (id : ByteArray) (p : Prm) : Bool := decide (p.1 = id)
theorem isId_any (x1 : ByteArray) (ps : List Prm) (lv : Value) (w : World) (id : ByteArray) (bi : Nat) (hlt : bi < w.heap.size) (hi : w.cell? ⟨bi, 0, none⟩ = some (.string id)) :
    Calls Tryz.prog 37 #[.agg #[.string x1, lv], .pointer (some ⟨bi, 0, none⟩)] w fun e w' => e = .returned (.bool (isIdB id (x1, ps))) ∧ Below w.heap.size w w' := by
  have hb : Below w.heap.size w (w.alloc (.cells #[.string x1, lv] 52)) := (Below.refl _ _).alloc (Nat.le_refl _) _
  have hi' : ∀ o, (w.alloc o).cell? ⟨bi, 0, none⟩ = some (.string id) := fun o => (((Below.refl w.heap.size w).alloc (Nat.le_refl _) o).cell (p := ⟨bi, 0, none⟩) hlt).trans hi
  have he := eq_text x1 id
  have hne : bi ≠ w.heap.size := by omega
  unfold isIdB
  go_enter Tryz.func37, Tryz.ntmps37
  go_wp2
  go_ret
  exact ⟨rfl, hb⟩
theorem isName_any (x1 x2 : ByteArray) (w : World) (id : ByteArray) (bi : Nat) (hlt : bi < w.heap.size) (hi : w.cell? ⟨bi, 0, none⟩ = some (.string id)) :
    Calls Tryz.prog 39 #[.agg #[.string x1, .string x2], .pointer (some ⟨bi, 0, none⟩)] w fun e w' => e = .returned (.bool (isNmB id (x1, x2))) ∧ Below w.heap.size w w' := by
  have hb : Below w.heap.size w (w.alloc (.cells #[.string x1, .string x2] 54)) := (Below.refl _ _).alloc (Nat.le_refl _) _
  have hi' : ∀ o, (w.alloc o).cell? ⟨bi, 0, none⟩ = some (.string id) := fun o => (((Below.refl w.heap.size w).alloc (Nat.le_refl _) o).cell (p := ⟨bi, 0, none⟩) hlt).trans hi
  have he := eq_text x1 id
  have hne : bi ≠ w.heap.size := by omega
  unfold isNmB
  go_enter Tryz.func39, Tryz.ntmps39
  go_wp2
  go_ret
  exact ⟨rfl, hb⟩
set_option maxHeartbeats 1000000 in
theorem idx_wrong (es : List Prm) (v : Value) (w : World) (h : PrmsAt w v es) (hs : es.length ≤ 17592186044416) (hS : Std w) (hl : ∀ p ∈ es, p.1.size ≤ 140737488355328 ∧ p.2.size ≤ 140737488355328) :
    Calls Tryz.prog 38 #[v, .func (.func 75) #[] #[]] w fun e w' => e = .returned (.int .i64 (fstI (wrongB) es)) ∧ Below w.heap.size w w' := by
  obtain ⟨a, c, rfl, hmem⟩ := h
  have HM := Lib.hid hmem
  clear hmem
  obtain ⟨n, hn⟩ : ∃ n, es.length = n := ⟨_, rfl⟩
  have HN := Lib.hid hn
  rw [hn] at hs ⊢
  clear hn
  go_enter Tryz.func38, Tryz.ntmps38
  go_wp2
  go_loopw [8] (fun i wr => ∃ k : Nat, k ≤ n ∧ i = .int .i64 k ∧ (∀ y ∈ es.take k, (wrongB) y = false) ∧ Below w.heap.size w wr) (fun i _ => n - (intOf i).toNat)
  case atStart => exact ⟨0, by omega, rfl, by simp, Below.refl _ _⟩
  case round =>
    obtain ⟨k, hk, rfl, hall, hB⟩ := hrel
    have HA := Lib.hid hall
    clear hall
    by_cases hlt : k < n
    · obtain ⟨x, hx⟩ : ∃ x, es[k]? = some x := ⟨es[k]'(by rw [HN.out]; exact hlt), List.getElem?_eq_getElem _⟩
      obtain ⟨b, o, ha, hb, hc⟩ := HM.out (by rw [HN.out]; omega)
      subst ha
      have hbw : b < wr.heap.size := Nat.lt_of_lt_of_le hb hB.size
      obtain ⟨c1, c2⟩ := hc k x hx
      have d1 : wr.cell? ⟨b, o + 2 * k, none⟩ = some (.string x.1) := (hB.cell (p := ⟨b, _, none⟩) hb).trans c1
      have d2 : wr.cell? ⟨b, o + 2 * k + 1, none⟩ = some (.string x.2) := (hB.cell (p := ⟨b, _, none⟩) hb).trans c2
      obtain ⟨x1, x2⟩ := x
      have HC := Lib.hid (wrong_any x1 x2 wr (hS.below hB) (by have := (hl _ (List.mem_of_getElem? hx)).1; simp only at this; omega) (by have := (hl _ (List.mem_of_getElem? hx)).2; simp only at this; omega))
      have HX := Lib.hid hx
      clear hc c1 c2 hx
      have e1 : o + k * 2 = o + 2 * k := by omega
      simp only at d1 d2
      by_cases hpx : (wrongB) (x1, x2) = true
      · have HR := Lib.hid (fstI_at HX.out hpx HA.out)
        rw [hpx] at HC
        clear hpx
        go_wp2_with fail
        refine HC.out.mono ?_
        rintro e w' ⟨rfl, hb2⟩
        have B2 := hB.trans (hb2.mono hB.size)
        go_wp2
        go_ret
        exact ⟨by rw [HR.out]; rfl, B2⟩
      · have hpf : (wrongB) (x1, x2) = false := by simpa using hpx
        have HA2 := Lib.hid (show ∀ y ∈ es.take (k + 1), (wrongB) y = false by
          intro y hy
          rw [List.take_add_one, HX.out, List.mem_append] at hy
          rcases hy with hy | hy
          · exact HA.out y hy
          · simp at hy
            rw [hy]; exact hpf)
        rw [hpf] at HC
        clear hpx hpf
        go_wp2_with fail
        refine HC.out.mono ?_
        rintro e w' ⟨rfl, hb2⟩
        have B2 := hB.trans (hb2.mono hB.size)
        go_wp2
        go_roundw
        case rel => exact ⟨k + 1, by omega, by go_num, HA2.out, B2⟩
        case measure => simp [intOf]; omega
    · obtain rfl : k = n := by omega
      have HR := Lib.hid (show fstI (wrongB) es = -1 from fstI_none (fun y hy => HA.out y (by rw [← HN.out, List.take_length]; exact hy)))
      go_wp2
      go_ret
      exact ⟨by rw [HR.out]; rfl, hB⟩
set_option maxHeartbeats 1000000 in
theorem idx_id (id : ByteArray) (bi : Nat) (es : List Elm) (v : Value) (w : World) (h : ElmsAt w v es) (hs : es.length ≤ 17592186044416) (hlt0 : bi < w.heap.size) (hi : w.cell? ⟨bi, 0, none⟩ = some (.string id)) :
    Calls Tryz.prog 36 #[v, .func (.func 37) #[] #[.pointer (some ⟨bi, 0, none⟩)]] w fun e w' => e = .returned (.int .i64 (fstI (isIdB id) es)) ∧ Below w.heap.size w w' := by
  obtain ⟨a, c, rfl, hmem⟩ := h
  have HM := Lib.hid hmem
  clear hmem
  obtain ⟨n, hn⟩ : ∃ n, es.length = n := ⟨_, rfl⟩
  have HN := Lib.hid hn
  rw [hn] at hs ⊢
  clear hn
  go_enter Tryz.func36, Tryz.ntmps36
  go_wp2
  go_loopw [8] (fun i wr => ∃ k : Nat, k ≤ n ∧ i = .int .i64 k ∧ (∀ y ∈ es.take k, (isIdB id) y = false) ∧ Below w.heap.size w wr) (fun i _ => n - (intOf i).toNat)
  case atStart => exact ⟨0, by omega, rfl, by simp, Below.refl _ _⟩
  case round =>
    obtain ⟨k, hk, rfl, hall, hB⟩ := hrel
    have HA := Lib.hid hall
    clear hall
    by_cases hlt : k < n
    · obtain ⟨x, hx⟩ : ∃ x, es[k]? = some x := ⟨es[k]'(by rw [HN.out]; exact hlt), List.getElem?_eq_getElem _⟩
      obtain ⟨b, o, ha, hb, hc⟩ := HM.out (by rw [HN.out]; omega)
      subst ha
      have hbw : b < wr.heap.size := Nat.lt_of_lt_of_le hb hB.size
      obtain ⟨lv, c1, c2, hp⟩ := hc k x hx
      have d1 : wr.cell? ⟨b, o + 2 * k, none⟩ = some (.string x.1) := (hB.cell (p := ⟨b, _, none⟩) hb).trans c1
      have d2 : wr.cell? ⟨b, o + 2 * k + 1, none⟩ = some lv := (hB.cell (p := ⟨b, _, none⟩) hb).trans c2
      have hp' := hp.below hB
      obtain ⟨x1, x2⟩ := x
      have HC := Lib.hid (isId_any x1 x2 lv wr id bi (Nat.lt_of_lt_of_le hlt0 hB.size) ((hB.cell (p := ⟨bi, 0, none⟩) hlt0).trans hi))
      have HX := Lib.hid hx
      clear hc c1 c2 hp hp' hx
      have e1 : o + k * 2 = o + 2 * k := by omega
      simp only at d1 d2
      by_cases hpx : (isIdB id) (x1, x2) = true
      · have HR := Lib.hid (fstI_at HX.out hpx HA.out)
        rw [hpx] at HC
        clear hpx
        go_wp2_with fail
        refine HC.out.mono ?_
        rintro e w' ⟨rfl, hb2⟩
        have B2 := hB.trans (hb2.mono hB.size)
        go_wp2
        go_ret
        exact ⟨by rw [HR.out]; rfl, B2⟩
      · have hpf : (isIdB id) (x1, x2) = false := by simpa using hpx
        have HA2 := Lib.hid (show ∀ y ∈ es.take (k + 1), (isIdB id) y = false by
          intro y hy
          rw [List.take_add_one, HX.out, List.mem_append] at hy
          rcases hy with hy | hy
          · exact HA.out y hy
          · simp at hy
            rw [hy]; exact hpf)
        rw [hpf] at HC
        clear hpx hpf
        go_wp2_with fail
        refine HC.out.mono ?_
        rintro e w' ⟨rfl, hb2⟩
        have B2 := hB.trans (hb2.mono hB.size)
        go_wp2
        go_roundw
        case rel => exact ⟨k + 1, by omega, by go_num, HA2.out, B2⟩
        case measure => simp [intOf]; omega
    · obtain rfl : k = n := by omega
      have HR := Lib.hid (show fstI (isIdB id) es = -1 from fstI_none (fun y hy => HA.out y (by rw [← HN.out, List.take_length]; exact hy)))
      go_wp2
      go_ret
      exact ⟨by rw [HR.out]; rfl, hB⟩
set_option maxHeartbeats 1000000 in
theorem idx_name (id : ByteArray) (bi : Nat) (es : List Prm) (v : Value) (w : World) (h : PrmsAt w v es) (hs : es.length ≤ 17592186044416) (hlt0 : bi < w.heap.size) (hi : w.cell? ⟨bi, 0, none⟩ = some (.string id)) :
    Calls Tryz.prog 38 #[v, .func (.func 39) #[] #[.pointer (some ⟨bi, 0, none⟩)]] w fun e w' => e = .returned (.int .i64 (fstI (isNmB id) es)) ∧ Below w.heap.size w w' := by
  obtain ⟨a, c, rfl, hmem⟩ := h
  have HM := Lib.hid hmem
  clear hmem
  obtain ⟨n, hn⟩ : ∃ n, es.length = n := ⟨_, rfl⟩
  have HN := Lib.hid hn
  rw [hn] at hs ⊢
  clear hn
  go_enter Tryz.func38, Tryz.ntmps38
  go_wp2
  go_loopw [8] (fun i wr => ∃ k : Nat, k ≤ n ∧ i = .int .i64 k ∧ (∀ y ∈ es.take k, (isNmB id) y = false) ∧ Below w.heap.size w wr) (fun i _ => n - (intOf i).toNat)
  case atStart => exact ⟨0, by omega, rfl, by simp, Below.refl _ _⟩
  case round =>
    obtain ⟨k, hk, rfl, hall, hB⟩ := hrel
    have HA := Lib.hid hall
    clear hall
    by_cases hlt : k < n
    · obtain ⟨x, hx⟩ : ∃ x, es[k]? = some x := ⟨es[k]'(by rw [HN.out]; exact hlt), List.getElem?_eq_getElem _⟩
      obtain ⟨b, o, ha, hb, hc⟩ := HM.out (by rw [HN.out]; omega)
      subst ha
      have hbw : b < wr.heap.size := Nat.lt_of_lt_of_le hb hB.size
      obtain ⟨c1, c2⟩ := hc k x hx
      have d1 : wr.cell? ⟨b, o + 2 * k, none⟩ = some (.string x.1) := (hB.cell (p := ⟨b, _, none⟩) hb).trans c1
      have d2 : wr.cell? ⟨b, o + 2 * k + 1, none⟩ = some (.string x.2) := (hB.cell (p := ⟨b, _, none⟩) hb).trans c2
      obtain ⟨x1, x2⟩ := x
      have HC := Lib.hid (isName_any x1 x2 wr id bi (Nat.lt_of_lt_of_le hlt0 hB.size) ((hB.cell (p := ⟨bi, 0, none⟩) hlt0).trans hi))
      have HX := Lib.hid hx
      clear hc c1 c2 hx
      have e1 : o + k * 2 = o + 2 * k := by omega
      simp only at d1 d2
      by_cases hpx : (isNmB id) (x1, x2) = true
      · have HR := Lib.hid (fstI_at HX.out hpx HA.out)
        rw [hpx] at HC
        clear hpx
        go_wp2_with fail
        refine HC.out.mono ?_
        rintro e w' ⟨rfl, hb2⟩
        have B2 := hB.trans (hb2.mono hB.size)
        go_wp2
        go_ret
        exact ⟨by rw [HR.out]; rfl, B2⟩
      · have hpf : (isNmB id) (x1, x2) = false := by simpa using hpx
        have HA2 := Lib.hid (show ∀ y ∈ es.take (k + 1), (isNmB id) y = false by
          intro y hy
          rw [List.take_add_one, HX.out, List.mem_append] at hy
          rcases hy with hy | hy
          · exact HA.out y hy
          · simp at hy
            rw [hy]; exact hpf)
        rw [hpf] at HC
        clear hpx hpf
        go_wp2_with fail
        refine HC.out.mono ?_
        rintro e w' ⟨rfl, hb2⟩
        have B2 := hB.trans (hb2.mono hB.size)
        go_wp2
        go_roundw
        case rel => exact ⟨k + 1, by omega, by go_num, HA2.out, B2⟩
        case measure => simp [intOf]; omega
    · obtain rfl : k = n := by omega
      have HR := Lib.hid (show fstI (isNmB id) es = -1 from fstI_none (fun y hy => HA.out y (by rw [← HN.out, List.take_length]; exact hy)))
      go_wp2
      go_ret
      exact ⟨by rw [HR.out]; rfl, hB⟩
theorem any_long (es : List Elm) (v : Value) (w : World) (h : ElmsAt w v es) (hs : es.length ≤ 17592186044416) (hl : ∀ e ∈ es, e.2.length ≤ 17592186044416) :
    Calls Tryz.prog 45 #[v, .func (.func 46) #[] #[]] w fun e w' => e = .returned (.bool (es.any (longB))) ∧ Below w.heap.size w w' := by
  have HI := Lib.hid (idx_long es v w h hs hl)
  have HA := Lib.hid (fstI_any (longB) es)
  generalize fstI (longB) es = r at HI HA
  go_enter Tryz.func45, Tryz.ntmps45
  go_wp2_with fail
  refine HI.out.mono ?_
  rintro e w' ⟨rfl, hb⟩
  go_wp2
  go_ret
  refine ⟨?_, hb⟩
  have : decide (0 ≤ r) = es.any (longB) := by
    rw [Bool.eq_iff_iff, decide_eq_true_iff]
    exact iff_of_eq HA.out
  rw [← this]
  rfl
theorem any_wrong (es : List Prm) (v : Value) (w : World) (h : PrmsAt w v es) (hs : es.length ≤ 17592186044416) (hS : Std w) (hl : ∀ p ∈ es, p.1.size ≤ 140737488355328 ∧ p.2.size ≤ 140737488355328) :
    Calls Tryz.prog 74 #[v, .func (.func 75) #[] #[]] w fun e w' => e = .returned (.bool (es.any (wrongB))) ∧ Below w.heap.size w w' := by
  have HI := Lib.hid (idx_wrong es v w h hs hS hl)
  have HA := Lib.hid (fstI_any (wrongB) es)
  generalize fstI (wrongB) es = r at HI HA
  go_enter Tryz.func74, Tryz.ntmps74
  go_wp2_with fail
  refine HI.out.mono ?_
  rintro e w' ⟨rfl, hb⟩
  go_wp2
  go_ret
  refine ⟨?_, hb⟩
  have : decide (0 ≤ r) = es.any (wrongB) := by
    rw [Bool.eq_iff_iff, decide_eq_true_iff]
    exact iff_of_eq HA.out
  rw [← this]
  rfl
end Go.Proofs.YtnaijahhogndjaaGreatDoor
