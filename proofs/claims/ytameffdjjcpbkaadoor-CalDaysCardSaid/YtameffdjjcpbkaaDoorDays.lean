/-
  CalDays returns true for every date, every year, month, day and number: leap years, months' lengths, which dates are right, days, nanoseconds, and dates of these, are as the document says.
  Conditions: none (every input); the listed table of months' lengths stands as the program's text lays it (the card ties it).
-/
import Derived.Test.YtameffdjjcpbkaaDoorFrame
import Derived.Test.YtameffdjjcpbkaaDoorRefDate
import Derived.Deep.RegionHeld3
namespace Go.Proofs.YtameffdjjcpbkaaDoor.calDays
open Go.ChangeShapes Go.WideShapes Go.ChangeAt Go.RowKit Go.Joins

/-! ### both answers as the same terms -/
def daysA (y m d : Int) : Int := if dayB y m d = true then daysI y m d else 0
def errA (y m d : Int) : Int := if dayB y m d = true then 0 else 1
theorem day_right (y m d : Int) : rightB y m d 0 0 0 0 0 = dayB y m d := by rw [right_day]; simp
theorem days_a (y m d : Int) (w : World) (ht : Tab w) :
    Calls Tryd.prog 10 #[.int .i64 y, .int .i64 m, .int .i64 d] w fun e w' => e = .returned (.tuple #[.int .i64 (daysA y m d), .int .i64 (errA y m d)]) ∧ Below w.heap.size w w' := by
  unfold daysA errA
  by_cases h : dayB y m d = true
  · rw [if_pos h, if_pos h]; exact days_yes y m d w ht (by rw [day_right]; exact h)
  · rw [if_neg h, if_neg h]; exact days_no y m d w ht (by rw [day_right]; simpa using h)
theorem rdays_a (y m d : Int) (w : World) :
    Calls Tryd.prog 11 #[.int .i64 y, .int .i64 m, .int .i64 d] w fun e w' => e = .returned (.tuple #[.int .i64 (daysA y m d), .int .i64 (errA y m d)]) ∧ w' = w := by
  unfold daysA errA
  by_cases h : dayB y m d = true
  · rw [if_pos h, if_pos h]; exact rdays_yes y m d w h
  · rw [if_neg h, if_neg h]; exact rdays_no y m d w (by simpa using h)
def nanosA (y m d h i s n z : Int) : Int := if rightB y m d h i s n z = true then nanosI y m d h i s n z else 0
def errN (y m d h i s n z : Int) : Int := if rightB y m d h i s n z = true then 0 else 1
theorem nanos_a (y m d h i s n z : Int) (w : World) (ht : Tab w) :
    Calls Tryd.prog 12 #[.agg #[.int .i64 y, .int .i64 m, .int .i64 d, .int .i64 h, .int .i64 i, .int .i64 s, .int .i64 n, .int .i64 z]] w
      fun e w' => e = .returned (.tuple #[.int .i64 (nanosA y m d h i s n z), .int .i64 (errN y m d h i s n z)]) ∧ Below w.heap.size w w' := by
  unfold nanosA errN
  by_cases hr : rightB y m d h i s n z = true
  · rw [if_pos hr, if_pos hr]; exact nanos_yes y m d h i s n z w ht hr
  · rw [if_neg hr, if_neg hr]; exact nanos_no y m d h i s n z w ht (by simpa using hr)
theorem rnanos_a (y m d h i s n z : Int) (w : World) :
    Calls Tryd.prog 13 #[.agg #[.int .i64 y, .int .i64 m, .int .i64 d, .int .i64 h, .int .i64 i, .int .i64 s, .int .i64 n, .int .i64 z]] w
      fun e w' => e = .returned (.tuple #[.int .i64 (nanosA y m d h i s n z), .int .i64 (errN y m d h i s n z)]) ∧ Below w.heap.size w w' := by
  unfold nanosA errN
  by_cases hr : rightB y m d h i s n z = true
  · rw [if_pos hr, if_pos hr]; exact rnanos_yes y m d h i s n z w hr
  · rw [if_neg hr, if_neg hr]; exact rnanos_no y m d h i s n z w (by simpa using hr)
/-- The one date of nanoseconds. -/
noncomputable def sel (n : Int) : Int × Int × Int × Int × Int × Int × Int := Classical.epsilon fun t => DateIs (clamp n) t.1 t.2.1 t.2.2.1 t.2.2.2.1 t.2.2.2.2.1 t.2.2.2.2.2.1 t.2.2.2.2.2.2
theorem sel_is {n y m d h i s k : Int} (hx : DateIs (clamp n) y m d h i s k) : (y, m, d, h, i, s, k) = sel n := by
  have he : DateIs (clamp n) (sel n).1 (sel n).2.1 (sel n).2.2.1 (sel n).2.2.2.1 (sel n).2.2.2.2.1 (sel n).2.2.2.2.2.1 (sel n).2.2.2.2.2.2 :=
    Classical.epsilon_spec (p := fun t : Int × Int × Int × Int × Int × Int × Int => DateIs (clamp n) t.1 t.2.1 t.2.2.1 t.2.2.2.1 t.2.2.2.2.1 t.2.2.2.2.2.1 t.2.2.2.2.2.2) ⟨(y, m, d, h, i, s, k), hx⟩
  obtain ⟨e1, e2, e3, e4, e5, e6, e7⟩ := nanos_inj hx.1 he.1 (hx.2.trans he.2.symm)
  rw [e1, e2, e3, e4, e5, e6, e7]
def selV (t : Int × Int × Int × Int × Int × Int × Int) : Value := .agg #[.int .i64 t.1, .int .i64 t.2.1, .int .i64 t.2.2.1, .int .i64 t.2.2.2.1, .int .i64 t.2.2.2.2.1, .int .i64 t.2.2.2.2.2.1, .int .i64 t.2.2.2.2.2.2, .int .i64 0]
theorem sel_ans {n : Int} {w : World} {e : Ending} {w' : World} (h : DateAns n w e w') : e = .returned (selV (sel n)) ∧ Below w.heap.size w w' := by
  obtain ⟨y, m, d, h, i, s, k, rfl, hx, hb⟩ := h
  rw [← sel_is hx]
  exact ⟨rfl, hb⟩
theorem date_a (n y m d h i s k : Int) (hs : sel n = (y, m, d, h, i, s, k)) (w : World) (ht : Tab w) :
    Calls Tryd.prog 20 #[.int .i64 n] w fun e w' => e = .returned (.agg #[.int .i64 y, .int .i64 m, .int .i64 d, .int .i64 h, .int .i64 i, .int .i64 s, .int .i64 k, .int .i64 0]) ∧ Below w.heap.size w w' :=
  (date_any n w ht).mono fun e w' h => by have := sel_ans h; rw [hs] at this; exact this
theorem rdate_a (n y m d h i s k : Int) (hs : sel n = (y, m, d, h, i, s, k)) (w : World) :
    Calls Tryd.prog 21 #[.int .i64 n] w fun e w' => e = .returned (.agg #[.int .i64 y, .int .i64 m, .int .i64 d, .int .i64 h, .int .i64 i, .int .i64 s, .int .i64 k, .int .i64 0]) ∧ Below w.heap.size w w' :=
  (rdate_any n w).mono fun e w' h => by have := sel_ans h; rw [hs] at this; exact this

/-! ### what is held while the last statement is worked out -/
theorem held_next {w6 W w' : World} {b : Nat} {c0 c1 c2 c3 c4 c5 c6 c7 : Value}
    (h : W.cell? ⟨b, 0, none⟩ = some c0 ∧ W.cell? ⟨b, 1, none⟩ = some c1 ∧ W.cell? ⟨b, 2, none⟩ = some c2 ∧ W.cell? ⟨b, 3, none⟩ = some c3 ∧ W.cell? ⟨b, 4, none⟩ = some c4 ∧ W.cell? ⟨b, 5, none⟩ = some c5 ∧ W.cell? ⟨b, 6, none⟩ = some c6 ∧ W.cell? ⟨b, 7, none⟩ = some c7 ∧ Below w6.heap.size w6 W)
    (hlt : b < w6.heap.size) (hb : Below W.heap.size W w') :
    w'.cell? ⟨b, 0, none⟩ = some c0 ∧ w'.cell? ⟨b, 1, none⟩ = some c1 ∧ w'.cell? ⟨b, 2, none⟩ = some c2 ∧ w'.cell? ⟨b, 3, none⟩ = some c3 ∧ w'.cell? ⟨b, 4, none⟩ = some c4 ∧ w'.cell? ⟨b, 5, none⟩ = some c5 ∧ w'.cell? ⟨b, 6, none⟩ = some c6 ∧ w'.cell? ⟨b, 7, none⟩ = some c7 ∧ Below w6.heap.size w6 w' := by
  obtain ⟨h0, h1, h2, h3, h4, h5, h6, h7, hB⟩ := h
  have hl : b < W.heap.size := Nat.lt_of_lt_of_le hlt hB.size
  obtain ⟨hc, _⟩ := bcell hb
  exact ⟨(hc b 0 hl).trans h0, (hc b 1 hl).trans h1, (hc b 2 hl).trans h2, (hc b 3 hl).trans h3, (hc b 4 hl).trans h4, (hc b 5 hl).trans h5, (hc b 6 hl).trans h6, (hc b 7 hl).trans h7, hB.trans (hb.mono hB.size)⟩

theorem held_below {w6 W : World} {b : Nat} {c0 c1 c2 c3 c4 c5 c6 c7 : Value}
    (h : W.cell? ⟨b, 0, none⟩ = some c0 ∧ W.cell? ⟨b, 1, none⟩ = some c1 ∧ W.cell? ⟨b, 2, none⟩ = some c2 ∧ W.cell? ⟨b, 3, none⟩ = some c3 ∧ W.cell? ⟨b, 4, none⟩ = some c4 ∧ W.cell? ⟨b, 5, none⟩ = some c5 ∧ W.cell? ⟨b, 6, none⟩ = some c6 ∧ W.cell? ⟨b, 7, none⟩ = some c7 ∧ Below w6.heap.size w6 W) : Below w6.heap.size w6 W := by
  obtain ⟨_, _, _, _, _, _, _, _, hB⟩ := h
  exact hB
theorem held_tab {w6 W : World} {b : Nat} {c0 c1 c2 c3 c4 c5 c6 c7 : Value} (ht : Tab w6)
    (h : W.cell? ⟨b, 0, none⟩ = some c0 ∧ W.cell? ⟨b, 1, none⟩ = some c1 ∧ W.cell? ⟨b, 2, none⟩ = some c2 ∧ W.cell? ⟨b, 3, none⟩ = some c3 ∧ W.cell? ⟨b, 4, none⟩ = some c4 ∧ W.cell? ⟨b, 5, none⟩ = some c5 ∧ W.cell? ⟨b, 6, none⟩ = some c6 ∧ W.cell? ⟨b, 7, none⟩ = some c7 ∧ Below w6.heap.size w6 W) : Tab W := by
  obtain ⟨_, _, _, _, _, _, _, _, hB⟩ := h
  exact ht.below hB

set_option maxHeartbeats 8000000 in
set_option maxRecDepth 100000 in
theorem walk (y m d h i s n z Yr Mo Dy N : Int) (w : World) (ht : Tab w) :
    Calls Tryd.prog 3 #[.agg #[.int .i64 y, .int .i64 m, .int .i64 d, .int .i64 h, .int .i64 i, .int .i64 s, .int .i64 n, .int .i64 z, .int .i64 Yr, .int .i64 Mo, .int .i64 Dy, .int .i64 N]] w
      fun e w' => e = .returned (.bool true) ∧ Below w.heap.size w w' := by
  obtain ⟨⟨a1, a2, a3, a4, a5, a6, a7⟩, hs⟩ : ∃ t, sel N = t := ⟨_, rfl⟩
  have HS := Lib.hid hs
  clear hs
  have hb : Below w.heap.size w ((w.alloc (.cells #[.int .i64 y, .int .i64 m, .int .i64 d, .int .i64 h, .int .i64 i, .int .i64 s, .int .i64 n, .int .i64 z, .int .i64 Yr, .int .i64 Mo, .int .i64 Dy, .int .i64 N] 25)).alloc (.cells #[.int .i64 y, .int .i64 m, .int .i64 d, .int .i64 h, .int .i64 i, .int .i64 s, .int .i64 n, .int .i64 z] 23)) :=
    ((Below.refl _ _).alloc (Nat.le_refl _) _).alloc (by simp) _
  have ht1 := ht.below hb
  go_enter Tryd.func3, Tryd.ntmps3
  go_wp2_with fail
  refine (shown_any _ ht1).mono ?_
  rintro e w2 ⟨rfl, hb2⟩
  have ht2 := ht1.below hb2
  have B2 : Below w.heap.size w w2 := hb.trans (hb2.mono (by simp; omega))
  obtain ⟨hc2, hf2⟩ := bcell hb2
  have hz : w.heap.size + 1 < w2.heap.size := by have := hb2.size; simp at this; omega
  clear ht ht1 hb hb2
  go_wp2_with fail
  refine (days_a _ _ _ _ ht2).mono ?_
  rintro e w3 ⟨rfl, hb3⟩
  have ht3 := ht2.below hb3
  have B3 := B2.trans (hb3.mono B2.size)
  obtain ⟨hc3, hf3⟩ := bcell hb3
  have hz3 : w.heap.size + 1 < w3.heap.size := Nat.lt_of_lt_of_le hz hb3.size
  clear ht2 B2 hb3
  go_wp2_with fail
  refine (rdays_a _ _ _ _).mono ?_
  rintro e w3' ⟨rfl, rfl⟩
  generalize daysA Yr Mo Dy = A
  generalize errA Yr Mo Dy = E
  go_wp2_with fail
  refine (nanos_a _ _ _ _ _ _ _ _ _ ht3).mono ?_
  rintro e w4 ⟨rfl, hb4⟩
  have ht4 := ht3.below hb4
  have B4 := B3.trans (hb4.mono B3.size)
  obtain ⟨hc4, hf4⟩ := bcell hb4
  have hz4 : w.heap.size + 1 < w4.heap.size := Nat.lt_of_lt_of_le hz3 hb4.size
  clear ht3 B3 hb4
  go_wp2_with fail
  refine (rnanos_a _ _ _ _ _ _ _ _ _).mono ?_
  rintro e w5 ⟨rfl, hb5⟩
  have ht5 := ht4.below hb5
  have B5 := B4.trans (hb5.mono B4.size)
  obtain ⟨hc5, hf5⟩ := bcell hb5
  have hz5 : w.heap.size + 1 < w5.heap.size := Nat.lt_of_lt_of_le hz4 hb5.size
  generalize nanosA y m d h i s n z = X
  generalize errN y m d h i s n z = F
  have hC : w5.cell? ⟨w.heap.size + 1, 0, none⟩ = some (.int .i64 y) ∧ w5.cell? ⟨w.heap.size + 1, 1, none⟩ = some (.int .i64 m) ∧ w5.cell? ⟨w.heap.size + 1, 2, none⟩ = some (.int .i64 d) ∧ w5.cell? ⟨w.heap.size + 1, 3, none⟩ = some (.int .i64 h) ∧ w5.cell? ⟨w.heap.size + 1, 4, none⟩ = some (.int .i64 i) ∧ w5.cell? ⟨w.heap.size + 1, 5, none⟩ = some (.int .i64 s) ∧ w5.cell? ⟨w.heap.size + 1, 6, none⟩ = some (.int .i64 n) ∧ w5.cell? ⟨w.heap.size + 1, 7, none⟩ = some (.int .i64 z) := by
    simp [hc5, hc4, hc3, hc2, hz, hz3, hz4, go_sem]
  clear hc2 hf2 hc3 hf3 hc4 hf4 hc5 hf5 hz hz3 hz4 ht4 B4 hb5
  go_wp2_with fail
  obtain ⟨k0, k1, k2, k3, k4, k5, k6, k7⟩ := hC
  go_region_held3 (fun w' => w'.cell? ⟨w.heap.size + 1, 0, none⟩ = some (.int .i64 y) ∧ w'.cell? ⟨w.heap.size + 1, 1, none⟩ = some (.int .i64 m) ∧ w'.cell? ⟨w.heap.size + 1, 2, none⟩ = some (.int .i64 d) ∧ w'.cell? ⟨w.heap.size + 1, 3, none⟩ = some (.int .i64 h) ∧ w'.cell? ⟨w.heap.size + 1, 4, none⟩ = some (.int .i64 i) ∧ w'.cell? ⟨w.heap.size + 1, 5, none⟩ = some (.int .i64 s) ∧ w'.cell? ⟨w.heap.size + 1, 6, none⟩ = some (.int .i64 n) ∧ w'.cell? ⟨w.heap.size + 1, 7, none⟩ = some (.int .i64 z) ∧ Below w5.heap.size w5 w')
    (first
      | assumption
      | exact held_next (by assumption) hz5 (by assumption)
      | exact ⟨k0, k1, k2, k3, k4, k5, k6, k7, drewN_below w5 1⟩)
    (first
      | (go_at_call 14; refine (leap_any _ _).mono ?_; rintro e w' ⟨rfl, rfl⟩)
      | (go_at_call 15; refine (rleap_any _ _).mono ?_; rintro e w' ⟨rfl, rfl⟩)
      | (go_at_call 16; refine (length_any _ _ _ (held_tab (b := w.heap.size + 1) ht5 (by assumption))).mono ?_; rintro e w' ⟨rfl, rfl⟩)
      | (go_at_call 17; refine (rlength_any _ _ _).mono ?_; rintro e w' ⟨rfl, rfl⟩)
      | (go_at_call 18; refine (right_any _ _ _ _ _ _ _ _ _ (held_tab (b := w.heap.size + 1) ht5 (by assumption))).mono ?_; rintro e w' ⟨rfl, hbx⟩)
      | (go_at_call 19; refine (rright_any _ _ _ _ _ _ _ _ _).mono ?_; rintro e w' ⟨rfl, hbx⟩)
      | (go_at_call 20; refine (date_a _ _ _ _ _ _ _ _ HS.out _ (held_tab (b := w.heap.size + 1) ht5 (by assumption))).mono ?_; rintro e w' ⟨rfl, hbx⟩)
      | (go_at_call 21; refine (rdate_a _ _ _ _ _ _ _ _ HS.out _).mono ?_; rintro e w' ⟨rfl, hbx⟩))
  rename_i hS
  have B6 := B5.trans ((held_below hS).mono B5.size)
  clear hS ht5 B5
  go_wp2
  go_ret
  exact ⟨rfl, B6⟩

/-! ### the argument: a struct that holds a date, three numbers and one more -/
theorem cells25 : Tryd.prog.cellsOf 25 = 12 := by kernel_rfl
theorem cells2 : Tryd.prog.cellsOf 2 = 1 := by kernel_rfl
theorem int_cell {H : Type} {enc : TypeId × Value → H} {w : World} {base : Nat} {spare : Nat → Bool} {held : Bool} {fuel : Nat} {e : TypeId} {c : Value} {y : DataW H × List MemPlace}
    (he : Tryd.prog.underlying e = some (.int .i64)) (h : DataW.trod enc Tryd.prog w base spare held fuel e [c] = some y) : ∃ a : Int, c = .int .i64 a := by
  obtain ⟨a, e0, _, _⟩ := DataW.trod_int he h
  exact ⟨a, by simpa using e0⟩
theorem open_in {H : Type} {enc : TypeId × Value → H} {w : World} {base : Nat} {spare : Nat → Bool} {held : Bool} {r : Reach} {b0 : Nat} {v : Value} {d : DataW H} {p : List MemPlace}
    (hv : Value.okWide Tryd.prog w r b0 25 v) (h : DataW.Trod enc Tryd.prog w base spare held 25 v d p) :
    ∃ a0 a1 a2 a3 a4 a5 a6 a7 a8 a9 a10 a11 : Int, v = .agg #[.int .i64 a0, .int .i64 a1, .int .i64 a2, .int .i64 a3, .int .i64 a4, .int .i64 a5, .int .i64 a6, .int .i64 a7, .int .i64 a8, .int .i64 a9, .int .i64 a10, .int .i64 a11] := by
  obtain ⟨cs, rfl, hsz⟩ := okWide_struct Tryd.underlying25 hv
  obtain ⟨l⟩ := cs
  match l, hsz.trans cells25 with
  | [c0, c1, c2, c3, c4, c5, c6, c7, c8, c9, c10, c11], _ =>
    obtain ⟨fuel, hf⟩ := h
    obtain ⟨xs, n, _, hx, _, hlen, hg⟩ := DataW.trod_struct Tryd.underlying25 hf
    have g0 := hg 0 _ rfl
    have g1 := hg 1 _ rfl
    have g2 := hg 2 _ rfl
    have g3 := hg 3 _ rfl
    have g4 := hg 4 _ rfl
    match xs, hlen with
    | [y0, y1, y2, y3, y4], _ =>
      simp [Value.cells, cells23, cells3, cells2] at g0 g1 g2 g3 g4
      obtain ⟨a8, rfl⟩ := int_cell Tryd.underlying3 g1
      obtain ⟨a9, rfl⟩ := int_cell Tryd.underlying3 g2
      obtain ⟨a10, rfl⟩ := int_cell Tryd.underlying3 g3
      obtain ⟨a11, rfl⟩ := int_cell Tryd.underlying2 g4
      obtain ⟨ys, n', _, hx', _, hlen', hg'⟩ := DataW.trod_struct Tryd.underlying23 g0
      have f0 := hg' 0 _ rfl
      have f1 := hg' 1 _ rfl
      have f2 := hg' 2 _ rfl
      have f3 := hg' 3 _ rfl
      have f4 := hg' 4 _ rfl
      have f5 := hg' 5 _ rfl
      have f6 := hg' 6 _ rfl
      have f7 := hg' 7 _ rfl
      match ys, hlen' with
      | [z0, z1, z2, z3, z4, z5, z6, z7], _ =>
        simp [cells3] at f0 f1 f2 f3 f4 f5 f6 f7
        obtain ⟨a0, rfl⟩ := int_cell Tryd.underlying3 f0
        obtain ⟨a1, rfl⟩ := int_cell Tryd.underlying3 f1
        obtain ⟨a2, rfl⟩ := int_cell Tryd.underlying3 f2
        obtain ⟨a3, rfl⟩ := int_cell Tryd.underlying3 f3
        obtain ⟨a4, rfl⟩ := int_cell Tryd.underlying3 f4
        obtain ⟨a5, rfl⟩ := int_cell Tryd.underlying3 f5
        obtain ⟨a6, rfl⟩ := int_cell Tryd.underlying3 f6
        obtain ⟨a7, rfl⟩ := int_cell Tryd.underlying3 f7
        exact ⟨a0, a1, a2, a3, a4, a5, a6, a7, a8, a9, a10, a11, rfl⟩

set_option maxRecDepth 100000 in
theorem lifted (os : Os) (started : os.Started) (H : Type) (enc : TypeId × Value → H) :
    ReturnsInHanded {} Tryd.checked os 3 .any (fun w args => (Rows.calDaysSpec.pre enc Tryd.prog Tryd.f3 [] false w args ∧ laidMetH Tryd.prog laid1 w) ∧ sizedMet enc Tryd.prog Tryd.f3 (OpenSpec.ofChange Rows.calDaysSpec) false w args)
      (Rows.calDaysSpec.post enc Tryd.prog Tryd.f3 false true false false) := by
  refine returnsInHanded_of_change_and (C := Tryd.checked) (X := fun w _ => laidMetH Tryd.prog laid1 w) (fun _ _ _ hh h => h.of_heap hh) own started (by kernel_rfl) Tryd.func3
    (ChangeSpec.witness_shaped (enc := enc) (C := Tryd.checked) (os := os) (X := fun w _ => laidMetH Tryd.prog laid1 w) false (World.doorLaid Tryd.prog 400 os) #[.agg #[.int .i64 0, .int .i64 0, .int .i64 0, .int .i64 0, .int .i64 0, .int .i64 0, .int .i64 0, .int .i64 0, .int .i64 0, .int .i64 0, .int .i64 0, .int .i64 0]] 8 rfl (World.shaped_of_RefB (by kernel_rfl) (by kernel_rfl)) (by kernel_rfl) (by kernel_rfl) (by kernel_rfl) (door_met os _)) ?_
  intro W base args ds gs before hval0 hW _ _ hL _
  have hval : ∀ (j : Nat) t v, Tryd.f3.params[j]? = some t → args[j]? = some v → Value.okWide Tryd.prog W .any base t v := hval0
  have hW' := hW
  obtain ⟨p, q, hA0, hV, rfl, hfz, hnd⟩ := hW
  have hA : DataW.TrodAll enc Tryd.prog W 0 (fun _ => true) true Tryd.f3.params.toList args.toList ds p := hA0
  rw [Tryd.params3] at hA hval
  obtain ⟨v0, d0, rfl, rfl, h0⟩ := trodAll_one hA
  obtain ⟨rfl, rfl⟩ := trodVars_none hV
  have lt0 : ∀ x ∈ p, x.block < W.heap.size := by obtain ⟨m, hm⟩ := h0; exact DataW.trod_lt m _ _ _ hm
  obtain ⟨y, m, d, h, i, s, n, z, Yr, Mo, Dy, N, rfl⟩ := open_in (hval 0 25 v0 rfl rfl) h0
  clear hA0 hval0
  refine (walk y m d h i s n z Yr Mo Dy N W (tab_of_laid hL)).mono fun e W' ⟨he, bel⟩ => ?_
  subst he
  exact ⟨_, rfl, _, _, _, [], _, [], hW', trodAll_mk1 (shut_bool Tryd.underlying4 _), (trodAll_mk1 (Below.trod laidOut (by kernel_rfl) (of_decide_eq_true (by kernel_rfl)) h0 bel lt0)), rfl, bel.frame _, fun h => by cases h⟩

theorem over : Rows.calDaysRow.holds Tryd.pinned (OpenSpec.ofChange Rows.calDaysSpec) :=
  OpenClaim.holds_of_wide 3 Tryd.f3 rfl rfl rfl rfl rfl rfl rfl ⟨rfl, rfl, rfl, rfl, rfl⟩ rfl rfl rfl rfl rfl (by kernel_rfl) Tryd.func3 (by kernel_rfl)
    (of_decide_eq_true (by kernel_rfl)) (by unfold Func.isWrapper; first | (rw [if_pos (by decide +kernel)]; kernel_rfl) | (rw [if_neg (by decide +kernel)]; exact ⟨rfl, rfl⟩))
    (fun os started H enc _ => lifted os started H enc)

theorem proved : Rows.CalDaysCardSaid :=
  Claim7.holds_tied_plain_at .later [] [.data] true (true, "b91ebcdce503558ee3eebdc8f77ed00e8ad788aa52bd3cf20abb8b454fe661a6") false
    over (fun _ h => by cases h) (by kernel_rfl) (fun _ h => by cases h) calDays_row_tie rfl ⟨rfl, rfl⟩ (by kernel_rfl) rfl
    (fun f fn hf hfn => by
      obtain rfl : f = 3 := Option.some.inj ((show Tryd.prog.funcNamed "tabulary/tabularylaw04.CalDays" = some 3 by kernel_rfl).symm.trans hf) |>.symm
      obtain rfl : fn = Tryd.f3 := (Option.some.inj (Tryd.func3.symm.trans hfn)).symm
      exact ⟨by kernel_rfl, fun j t ht => by
        rw [Tryd.params3] at ht
        have hm : t ∈ [25] := by simpa using Array.mem_of_getElem? ht
        have hall : ([25].all fun u => !Tryd.prog.wantsStandIn u) = true := by kernel_rfl
        exact (show Tryd.prog.wantsStandIn t = false by simpa using List.all_eq_true.1 hall t hm)⟩)
    (by kernel_rfl)
#print axioms proved
end Go.Proofs.YtameffdjjcpbkaaDoor.calDays
