/-
  CalMoments returns true for every date and every number: the date of a right date's nanoseconds is the same moment, in Zone 0; nanoseconds of dates of years that there are are cut to microseconds.
  Conditions: none (every input); the listed table of months' lengths stands as the program's text lays it (the card ties it).
-/
import Derived.Test.YtameffdjjcpbkaaDoorFrame
import Derived.Test.YtameffdjjcpbkaaDoorDate
namespace Go.Proofs.YtameffdjjcpbkaaDoor.calMoments
open Go.ChangeShapes Go.WideShapes Go.ChangeAt Go.RowKit Go.Joins

theorem mid_clamp {y m d h i s n z : Int} (hr : rightB y m d h i s n z = true) (h1 : 1700 < y) (h2 : y < 2250) : clamp (nanosI y m d h i s n z) = nanosI y m d h i s n z := by
  obtain ⟨⟨y1, y2⟩, ⟨d1, d2⟩, ⟨h1, h2⟩, ⟨i1, i2⟩, ⟨s1, s2⟩, ⟨n1, n2⟩, _, ⟨z1, z2⟩⟩ := (right_iff ..).1 hr
  obtain ⟨m1, m2⟩ := month_of_day d1 d2
  have a := dby_mono (y + 1) 2250 (by omega)
  have b := dby_succ y
  have c := cum_bd y m m1 m2
  have a' := dby_mono (1700 + 1) y (by omega)
  have b' := dby_succ 1700
  have l := lp_01 1700
  rw [b', dby_1700] at a'
  rw [dby_2250] at a
  have : -98250 ≤ daysI y m d ∧ daysI y m d ≤ 102267 := by unfold daysI; omega
  unfold clamp
  unfold nanosI
  generalize daysI y m d = D at this ⊢
  rw [if_neg (by omega), if_neg (by omega)]
/-- The date of a right date's moment. -/
theorem back {y m d h i s n z y' m' d' h' i' s' n' : Int} (hr : rightB y m d h i s n z = true) (h1 : 1700 < y) (h2 : y < 2250) (hk : DateIs (clamp (nanosI y m d h i s n z)) y' m' d' h' i' s' n') :
    rightB y' m' d' h' i' s' n' 0 = true ∧ nanosI y' m' d' h' i' s' n' 0 = nanosI y m d h i s n z ∧ (z = 0 → y' = y ∧ m' = m ∧ d' = d ∧ h' = h ∧ i' = i ∧ s' = s ∧ n' = n) := by
  obtain ⟨hr', e⟩ := hk
  have ht := nanos_thousands hr
  rw [mid_clamp hr h1 h2, ht, Int.sub_zero] at e
  refine ⟨hr', e, ?_⟩
  rintro rfl
  exact nanos_inj hr' hr e
/-- What Date answers: right, and cut. -/
theorem cut {n y m d h i s k : Int} (hk : DateIs (clamp n) y m d h i s k) : rightB y m d h i s k 0 = true ∧ (y = 1700 ∨ (y ≠ 1700 ∧ y = 2250) ∨ (y ≠ 1700 ∧ y ≠ 2250 ∧ 0 ≤ n - nanosI y m d h i s k 0 ∧ n - nanosI y m d h i s k 0 < 1000)) := by
  obtain ⟨hr, e⟩ := hk
  refine ⟨hr, ?_⟩
  obtain ⟨⟨y1, y2⟩, _⟩ := (right_iff ..).1 hr
  by_cases a : y = 1700
  · exact .inl a
  · by_cases b : y = 2250
    · exact .inr (.inl ⟨a, b⟩)
    · refine .inr (.inr ⟨a, b, ?_⟩)
      have lo := nanos_low hr (by omega)
      have hi := nanos_high hr (by omega)
      have hn : clamp n = n := by
        unfold clamp at e ⊢
        split at e
        · rw [e] at lo; omega
        · rename_i h1
          split at e
          · rw [e] at hi; omega
          · rename_i h2
            rw [if_neg h1, if_neg h2]
      rw [hn] at e
      omega
set_option maxHeartbeats 2000000 in
set_option maxRecDepth 100000 in
theorem walk_no (y m d h i s n z N : Int) (w : World) (ht : Tab w) (hr : rightB y m d h i s n z = false) :
    Calls Tryd.prog 6 #[.agg #[.int .i64 y, .int .i64 m, .int .i64 d, .int .i64 h, .int .i64 i, .int .i64 s, .int .i64 n, .int .i64 z], .int .i64 N] w
      fun e w' => e = .returned (.bool true) ∧ Below w.heap.size w w' := by
  have hb : Below w.heap.size w (w.alloc (.cells #[.int .i64 y, .int .i64 m, .int .i64 d, .int .i64 h, .int .i64 i, .int .i64 s, .int .i64 n, .int .i64 z] 23)) := (Below.refl _ _).alloc (Nat.le_refl _) _
  have ht1 := ht.below hb
  go_enter Tryd.func6, Tryd.ntmps6
  go_wp2_with fail
  refine (shown_any _ ht1).mono ?_
  rintro e w2 ⟨rfl, hb2⟩
  have ht2 := ht1.below hb2
  have B2 : Below w.heap.size w w2 := hb.trans (hb2.mono (by simp))
  obtain ⟨hc2, hf2⟩ := bcell hb2
  have hz : w.heap.size < w2.heap.size := by have := hb2.size; simp at this; omega
  clear ht ht1 hb hb2
  go_wp2_with fail
  refine (nanos_no _ _ _ _ _ _ _ _ _ ht2 hr).mono ?_
  rintro e w5 ⟨rfl, hb5⟩
  have TT := ht2.below hb5
  have BB := B2.trans (hb5.mono B2.size)
  obtain ⟨hc5, hf5⟩ := bcell hb5
  clear ht2 B2 hb5
  go_wp2_with fail
  refine (date_any _ _ TT).mono ?_
  rintro e w6 ⟨Y, M, D, Hh, Ii, Ss, Kk, rfl, hx, hb6⟩
  have tt6 := TT.below hb6
  have B6 := BB.trans (hb6.mono BB.size)
  obtain ⟨hrx, hcut⟩ := cut hx
  have HX := Lib.hid hcut
  clear hx hcut TT hb6 BB
  have tt7 : Tab (w6.alloc (.cells #[.int .i64 Y, .int .i64 M, .int .i64 D, .int .i64 Hh, .int .i64 Ii, .int .i64 Ss, .int .i64 Kk, .int .i64 0] 23)) := tt6.alloc _
  have B7 := B6.alloc B6.size (.cells #[.int .i64 Y, .int .i64 M, .int .i64 D, .int .i64 Hh, .int .i64 Ii, .int .i64 Ss, .int .i64 Kk, .int .i64 0] 23)
  go_wp2_with fail
  refine (nanos_yes _ _ _ _ _ _ _ _ _ tt7 hrx).mono ?_
  rintro e w8 ⟨rfl, hb8⟩
  have tt8 := tt7.below hb8
  have B8 := B7.trans (hb8.mono B7.size)
  obtain ⟨hc8, hf8⟩ := bcell hb8
  have hz8 : w6.heap.size < w8.heap.size := by have := hb8.size; simp at this; omega
  clear tt6 tt7 B6 B7 hb8
  go_wp2_with fail
  refine (right_any _ _ _ _ _ _ _ _ _ tt8).mono ?_
  rintro e w9 ⟨rfl, hb9⟩
  have B9 := B8.trans (hb9.mono B8.size)
  obtain ⟨hc9, hf9⟩ := bcell hb9
  clear tt8 B8 hb9
  have nb := nanosI_bd hrx
  rcases HX.out with rfl | ⟨h1, rfl⟩ | ⟨h1, h2, h3, h4⟩
  · clear HX nb
    generalize nanosI _ _ _ _ _ _ _ _ = NN
    go_wp2
    go_ret
    exact ⟨rfl, B9⟩
  · clear HX h1 nb
    generalize nanosI _ _ _ _ _ _ _ _ = NN
    go_wp2
    go_ret
    exact ⟨rfl, B9⟩
  · have e1 : (Y == 1700) = false := beq_eq_false_iff_ne.2 h1
    have e2 : (Y == 2250) = false := beq_eq_false_iff_ne.2 h2
    clear HX h1 h2
    generalize nanosI Y M D Hh Ii Ss Kk 0 = NN at nb h3 h4 ⊢
    go_wp2
    go_ret
    exact ⟨rfl, B9⟩
set_option maxHeartbeats 2000000 in
set_option maxRecDepth 100000 in
theorem walk_edge (y m d h i s n z N : Int) (w : World) (ht : Tab w) (hr : rightB y m d h i s n z = true) (hy : y = 1700 ∨ y = 2250) :
    Calls Tryd.prog 6 #[.agg #[.int .i64 y, .int .i64 m, .int .i64 d, .int .i64 h, .int .i64 i, .int .i64 s, .int .i64 n, .int .i64 z], .int .i64 N] w
      fun e w' => e = .returned (.bool true) ∧ Below w.heap.size w w' := by
  have hb : Below w.heap.size w (w.alloc (.cells #[.int .i64 y, .int .i64 m, .int .i64 d, .int .i64 h, .int .i64 i, .int .i64 s, .int .i64 n, .int .i64 z] 23)) := (Below.refl _ _).alloc (Nat.le_refl _) _
  have ht1 := ht.below hb
  go_enter Tryd.func6, Tryd.ntmps6
  go_wp2_with fail
  refine (shown_any _ ht1).mono ?_
  rintro e w2 ⟨rfl, hb2⟩
  have ht2 := ht1.below hb2
  have B2 : Below w.heap.size w w2 := hb.trans (hb2.mono (by simp))
  obtain ⟨hc2, hf2⟩ := bcell hb2
  have hz : w.heap.size < w2.heap.size := by have := hb2.size; simp at this; omega
  clear ht ht1 hb hb2
  go_wp2_with fail
  refine (nanos_yes _ _ _ _ _ _ _ _ _ ht2 hr).mono ?_
  rintro e w5 ⟨rfl, hb5⟩
  have TT := ht2.below hb5
  have BB := B2.trans (hb5.mono B2.size)
  obtain ⟨hc5, hf5⟩ := bcell hb5
  clear ht2 B2 hb5 hr
  rcases hy with rfl | rfl
  all_goals
    generalize nanosI _ m d h i s n z = N0
    go_wp2_with fail
    refine (date_any _ _ TT).mono ?_
    rintro e w6 ⟨Y, M, D, Hh, Ii, Ss, Kk, rfl, hx, hb6⟩
    have tt6 := TT.below hb6
    have B6 := BB.trans (hb6.mono BB.size)
    obtain ⟨hrx, hcut⟩ := cut hx
    have HX := Lib.hid hcut
    clear hx hcut TT hb6 BB
    have tt7 : Tab (w6.alloc (.cells #[.int .i64 Y, .int .i64 M, .int .i64 D, .int .i64 Hh, .int .i64 Ii, .int .i64 Ss, .int .i64 Kk, .int .i64 0] 23)) := tt6.alloc _
    have B7 := B6.alloc B6.size (.cells #[.int .i64 Y, .int .i64 M, .int .i64 D, .int .i64 Hh, .int .i64 Ii, .int .i64 Ss, .int .i64 Kk, .int .i64 0] 23)
    go_wp2_with fail
    refine (nanos_yes _ _ _ _ _ _ _ _ _ tt7 hrx).mono ?_
    rintro e w8 ⟨rfl, hb8⟩
    have tt8 := tt7.below hb8
    have B8 := B7.trans (hb8.mono B7.size)
    obtain ⟨hc8, hf8⟩ := bcell hb8
    have hz8 : w6.heap.size < w8.heap.size := by have := hb8.size; simp at this; omega
    clear tt6 tt7 B6 B7 hb8
    go_wp2_with fail
    refine (right_any _ _ _ _ _ _ _ _ _ tt8).mono ?_
    rintro e w9 ⟨rfl, hb9⟩
    have B9 := B8.trans (hb9.mono B8.size)
    obtain ⟨hc9, hf9⟩ := bcell hb9
    clear tt8 B8 hb9
    have nb := nanosI_bd hrx
    rcases HX.out with rfl | ⟨h1, rfl⟩ | ⟨h1, h2, h3, h4⟩
    · clear HX nb
      generalize nanosI _ _ _ _ _ _ _ _ = NN
      go_wp2
      go_ret
      exact ⟨rfl, B9⟩
    · clear HX h1 nb
      generalize nanosI _ _ _ _ _ _ _ _ = NN
      go_wp2
      go_ret
      exact ⟨rfl, B9⟩
    · have e1 : (Y == 1700) = false := beq_eq_false_iff_ne.2 h1
      have e2 : (Y == 2250) = false := beq_eq_false_iff_ne.2 h2
      clear HX h1 h2
      generalize nanosI Y M D Hh Ii Ss Kk 0 = NN at nb h3 h4 ⊢
      go_wp2
      go_ret
      exact ⟨rfl, B9⟩
set_option maxHeartbeats 4000000 in
set_option maxRecDepth 100000 in
theorem walk_mid (y m d h i s n z N : Int) (w : World) (ht : Tab w) (hr : rightB y m d h i s n z = true) (y1 : 1700 < y) (y2 : y < 2250) :
    Calls Tryd.prog 6 #[.agg #[.int .i64 y, .int .i64 m, .int .i64 d, .int .i64 h, .int .i64 i, .int .i64 s, .int .i64 n, .int .i64 z], .int .i64 N] w
      fun e w' => e = .returned (.bool true) ∧ Below w.heap.size w w' := by
  have hb : Below w.heap.size w (w.alloc (.cells #[.int .i64 y, .int .i64 m, .int .i64 d, .int .i64 h, .int .i64 i, .int .i64 s, .int .i64 n, .int .i64 z] 23)) := (Below.refl _ _).alloc (Nat.le_refl _) _
  have ht1 := ht.below hb
  go_enter Tryd.func6, Tryd.ntmps6
  go_wp2_with fail
  refine (shown_any _ ht1).mono ?_
  rintro e w2 ⟨rfl, hb2⟩
  have ht2 := ht1.below hb2
  have B2 : Below w.heap.size w w2 := hb.trans (hb2.mono (by simp))
  obtain ⟨hc2, hf2⟩ := bcell hb2
  have hz : w.heap.size < w2.heap.size := by have := hb2.size; simp at this; omega
  clear ht ht1 hb hb2
  go_wp2_with fail
  refine (nanos_yes _ _ _ _ _ _ _ _ _ ht2 hr).mono ?_
  rintro e w3 ⟨rfl, hb3⟩
  have ht3 := ht2.below hb3
  have B3 := B2.trans (hb3.mono B2.size)
  obtain ⟨hc3, hf3⟩ := bcell hb3
  have hz3 : w.heap.size < w3.heap.size := Nat.lt_of_lt_of_le hz hb3.size
  clear ht2 B2 hb3
  go_wp2_with fail
  refine (date_any _ _ ht3).mono ?_
  rintro e w4 ⟨Y, M, D, Hh, Ii, Ss, Kk, rfl, hx, hb4⟩
  have ht4 := ht3.below hb4
  have B4 := B3.trans (hb4.mono B3.size)
  obtain ⟨hc4, hf4⟩ := bcell hb4
  have hz4 : w.heap.size < w4.heap.size := Nat.lt_of_lt_of_le hz3 hb4.size
  obtain ⟨hrk, hnk, hk0⟩ := back hr y1 y2 hx
  have HNK := Lib.hid hnk
  have HK := Lib.hid hk0
  clear hx hnk hk0 ht3 B3 hb4
  have ht4' : Tab (w4.alloc (.cells #[.int .i64 Y, .int .i64 M, .int .i64 D, .int .i64 Hh, .int .i64 Ii, .int .i64 Ss, .int .i64 Kk, .int .i64 0] 23)) := ht4.alloc _
  have B4' := B4.alloc B4.size (.cells #[.int .i64 Y, .int .i64 M, .int .i64 D, .int .i64 Hh, .int .i64 Ii, .int .i64 Ss, .int .i64 Kk, .int .i64 0] 23)
  go_wp2_with fail
  refine (nanos_yes _ _ _ _ _ _ _ _ _ ht4' hrk).mono ?_
  rintro e w5 ⟨rfl, hb5⟩
  have TT := ht4'.below hb5
  have BB := B4'.trans (hb5.mono B4'.size)
  obtain ⟨hc5, hf5⟩ := bcell hb5
  have hz5 : w4.heap.size < w5.heap.size := by have := hb5.size; simp at this; omega
  rw [HNK.out]
  clear ht4 ht4' B4 B4' hb5 hrk hr HNK
  generalize nanosI y m d h i s n z = N0
  by_cases hz0 : z = 0
  · obtain ⟨rfl, rfl, rfl, rfl, rfl, rfl, rfl⟩ := HK.out hz0
    subst hz0
    clear HK
    go_wp2_with fail
    refine (date_any _ _ TT).mono ?_
    rintro e w6 ⟨Y, M, D, Hh, Ii, Ss, Kk, rfl, hx, hb6⟩
    have tt6 := TT.below hb6
    have B6 := BB.trans (hb6.mono BB.size)
    obtain ⟨hrx, hcut⟩ := cut hx
    have HX := Lib.hid hcut
    clear hx hcut TT hb6 BB
    have tt7 : Tab (w6.alloc (.cells #[.int .i64 Y, .int .i64 M, .int .i64 D, .int .i64 Hh, .int .i64 Ii, .int .i64 Ss, .int .i64 Kk, .int .i64 0] 23)) := tt6.alloc _
    have B7 := B6.alloc B6.size (.cells #[.int .i64 Y, .int .i64 M, .int .i64 D, .int .i64 Hh, .int .i64 Ii, .int .i64 Ss, .int .i64 Kk, .int .i64 0] 23)
    go_wp2_with fail
    refine (nanos_yes _ _ _ _ _ _ _ _ _ tt7 hrx).mono ?_
    rintro e w8 ⟨rfl, hb8⟩
    have tt8 := tt7.below hb8
    have B8 := B7.trans (hb8.mono B7.size)
    obtain ⟨hc8, hf8⟩ := bcell hb8
    have hz8 : w6.heap.size < w8.heap.size := by have := hb8.size; simp at this; omega
    clear tt6 tt7 B6 B7 hb8
    go_wp2_with fail
    refine (right_any _ _ _ _ _ _ _ _ _ tt8).mono ?_
    rintro e w9 ⟨rfl, hb9⟩
    have B9 := B8.trans (hb9.mono B8.size)
    obtain ⟨hc9, hf9⟩ := bcell hb9
    clear tt8 B8 hb9
    have nb := nanosI_bd hrx
    rcases HX.out with rfl | ⟨h1, rfl⟩ | ⟨h1, h2, h3, h4⟩
    · clear HX nb
      generalize nanosI _ _ _ _ _ _ _ _ = NN
      go_wp2
      go_ret
      exact ⟨rfl, B9⟩
    · clear HX h1 nb
      generalize nanosI _ _ _ _ _ _ _ _ = NN
      go_wp2
      go_ret
      exact ⟨rfl, B9⟩
    · have e1 : (Y == 1700) = false := beq_eq_false_iff_ne.2 h1
      have e2 : (Y == 2250) = false := beq_eq_false_iff_ne.2 h2
      clear HX h1 h2
      generalize nanosI Y M D Hh Ii Ss Kk 0 = NN at nb h3 h4 ⊢
      go_wp2
      go_ret
      exact ⟨rfl, B9⟩
  · have hzf : (z == 0) = false := beq_eq_false_iff_ne.2 hz0
    clear HK hz0
    go_wp2_with fail
    refine (date_any _ _ TT).mono ?_
    rintro e w6 ⟨Y, M, D, Hh, Ii, Ss, Kk, rfl, hx, hb6⟩
    have tt6 := TT.below hb6
    have B6 := BB.trans (hb6.mono BB.size)
    obtain ⟨hrx, hcut⟩ := cut hx
    have HX := Lib.hid hcut
    clear hx hcut TT hb6 BB
    have tt7 : Tab (w6.alloc (.cells #[.int .i64 Y, .int .i64 M, .int .i64 D, .int .i64 Hh, .int .i64 Ii, .int .i64 Ss, .int .i64 Kk, .int .i64 0] 23)) := tt6.alloc _
    have B7 := B6.alloc B6.size (.cells #[.int .i64 Y, .int .i64 M, .int .i64 D, .int .i64 Hh, .int .i64 Ii, .int .i64 Ss, .int .i64 Kk, .int .i64 0] 23)
    go_wp2_with fail
    refine (nanos_yes _ _ _ _ _ _ _ _ _ tt7 hrx).mono ?_
    rintro e w8 ⟨rfl, hb8⟩
    have tt8 := tt7.below hb8
    have B8 := B7.trans (hb8.mono B7.size)
    obtain ⟨hc8, hf8⟩ := bcell hb8
    have hz8 : w6.heap.size < w8.heap.size := by have := hb8.size; simp at this; omega
    clear tt6 tt7 B6 B7 hb8
    go_wp2_with fail
    refine (right_any _ _ _ _ _ _ _ _ _ tt8).mono ?_
    rintro e w9 ⟨rfl, hb9⟩
    have B9 := B8.trans (hb9.mono B8.size)
    obtain ⟨hc9, hf9⟩ := bcell hb9
    clear tt8 B8 hb9
    have nb := nanosI_bd hrx
    rcases HX.out with rfl | ⟨h1, rfl⟩ | ⟨h1, h2, h3, h4⟩
    · clear HX nb
      generalize nanosI _ _ _ _ _ _ _ _ = NN
      go_wp2
      go_ret
      exact ⟨rfl, B9⟩
    · clear HX h1 nb
      generalize nanosI _ _ _ _ _ _ _ _ = NN
      go_wp2
      go_ret
      exact ⟨rfl, B9⟩
    · have e1 : (Y == 1700) = false := beq_eq_false_iff_ne.2 h1
      have e2 : (Y == 2250) = false := beq_eq_false_iff_ne.2 h2
      clear HX h1 h2
      generalize nanosI Y M D Hh Ii Ss Kk 0 = NN at nb h3 h4 ⊢
      go_wp2
      go_ret
      exact ⟨rfl, B9⟩
theorem walk (y m d h i s n z N : Int) (w : World) (ht : Tab w) :
    Calls Tryd.prog 6 #[.agg #[.int .i64 y, .int .i64 m, .int .i64 d, .int .i64 h, .int .i64 i, .int .i64 s, .int .i64 n, .int .i64 z], .int .i64 N] w
      fun e w' => e = .returned (.bool true) ∧ Below w.heap.size w w' := by
  by_cases hr : rightB y m d h i s n z = true
  · obtain ⟨⟨y1, y2⟩, _⟩ := (right_iff ..).1 hr
    by_cases hy : y = 1700 ∨ y = 2250
    · exact walk_edge y m d h i s n z N w ht hr hy
    · exact walk_mid y m d h i s n z N w ht hr (by omega) (by omega)
  · exact walk_no y m d h i s n z N w ht (by simpa using hr)

set_option maxRecDepth 100000 in
theorem lifted (os : Os) (started : os.Started) (H : Type) (enc : TypeId × Value → H) :
    ReturnsInHanded {} Tryd.checked os 6 .any (fun w args => (Rows.calMomentsSpec.pre enc Tryd.prog Tryd.f6 [] false w args ∧ laidMetH Tryd.prog laid1 w) ∧ sizedMet enc Tryd.prog Tryd.f6 (OpenSpec.ofChange Rows.calMomentsSpec) false w args)
      (Rows.calMomentsSpec.post enc Tryd.prog Tryd.f6 false true false false) := by
  refine returnsInHanded_of_change_and (C := Tryd.checked) (X := fun w _ => laidMetH Tryd.prog laid1 w) (fun _ _ _ hh h => h.of_heap hh) own started (by kernel_rfl) Tryd.func6
    (ChangeSpec.witness_shaped (enc := enc) (C := Tryd.checked) (os := os) (X := fun w _ => laidMetH Tryd.prog laid1 w) false (World.doorLaid Tryd.prog 400 os) #[.agg #[.int .i64 0, .int .i64 0, .int .i64 0, .int .i64 0, .int .i64 0, .int .i64 0, .int .i64 0, .int .i64 0], .int .i64 0] 8 rfl (World.shaped_of_RefB (by kernel_rfl) (by kernel_rfl)) (by kernel_rfl) (by kernel_rfl) (by kernel_rfl) (door_met os _)) ?_
  intro W base args ds gs before hval0 hW _ _ hL _
  have hval : ∀ (j : Nat) t v, Tryd.f6.params[j]? = some t → args[j]? = some v → Value.okWide Tryd.prog W .any base t v := hval0
  have hW' := hW
  obtain ⟨p, q, hA0, hV, rfl, hfz, hnd⟩ := hW
  have hA : DataW.TrodAll enc Tryd.prog W 0 (fun _ => true) true Tryd.f6.params.toList args.toList ds p := hA0
  rw [Tryd.params6] at hA hval
  obtain ⟨v0, vs0, d0, ds0, p0, q0, hargs, rfl, rfl, h0, r0⟩ := trodAll_cons hA
  obtain ⟨v1, vs1, d1, ds1, p1, q1, rfl, rfl, rfl, h1, r1⟩ := trodAll_cons r0
  obtain ⟨rfl, rfl, rfl⟩ := trodAll_nil r1
  obtain rfl : args = #[v0, v1] := by cases args; simp_all
  obtain ⟨rfl, rfl⟩ := trodVars_none hV
  have k0 := h0
  have lt0 : ∀ x ∈ p0, x.block < W.heap.size := by obtain ⟨m, hm⟩ := k0; exact DataW.trod_lt m _ _ _ hm
  obtain ⟨y, m, d, h, i, s, n, z, rfl, rfl, rfl, w0⟩ := open_ints8 Tryd.underlying23 (by kernel_rfl) cells23 Tryd.underlying3 rfl rfl rfl rfl rfl rfl rfl rfl (hval 0 23 v0 rfl rfl) h0
  obtain ⟨a1, rfl, rfl, rfl, w1⟩ := open_int Tryd.underlying2 (hval 1 2 v1 rfl rfl) h1
  clear hA0 hval0
  simp only [List.append_nil] at hW'
  refine (walk y m d h i s n z a1 W (tab_of_laid hL)).mono fun e W' ⟨he, bel⟩ => ?_
  subst he
  exact ⟨_, rfl, _, _, _, [], _, [], hW', trodAll_mk1 (shut_bool Tryd.underlying4 _), (trodAll_cons_mk (Below.trod laidOut (by kernel_rfl) (of_decide_eq_true (by kernel_rfl)) k0 bel lt0) (trodAll_cons_mk (shut_int Tryd.underlying2 w1) trodAll_mk0)), rfl, bel.frame _, fun h => by cases h⟩

theorem over : Rows.calMomentsRow.holds Tryd.pinned (OpenSpec.ofChange Rows.calMomentsSpec) :=
  OpenClaim.holds_of_wide 6 Tryd.f6 rfl rfl rfl rfl rfl rfl rfl ⟨rfl, rfl, rfl, rfl, rfl⟩ rfl rfl rfl rfl rfl (by kernel_rfl) Tryd.func6 (by kernel_rfl)
    (of_decide_eq_true (by kernel_rfl)) (by unfold Func.isWrapper; first | (rw [if_pos (by decide +kernel)]; kernel_rfl) | (rw [if_neg (by decide +kernel)]; exact ⟨rfl, rfl⟩))
    (fun os started H enc _ => lifted os started H enc)

theorem proved : Rows.CalMomentsCardSaid :=
  Claim7.holds_tied_plain_at .later [] [.data] true (true, "b91ebcdce503558ee3eebdc8f77ed00e8ad788aa52bd3cf20abb8b454fe661a6") false
    over (fun _ h => by cases h) (by kernel_rfl) (fun _ h => by cases h) calMoments_row_tie rfl ⟨rfl, rfl⟩ (by kernel_rfl) rfl
    (fun f fn hf hfn => by
      obtain rfl : f = 6 := Option.some.inj ((show Tryd.prog.funcNamed "tabulary/tabularylaw04.CalMoments" = some 6 by kernel_rfl).symm.trans hf) |>.symm
      obtain rfl : fn = Tryd.f6 := (Option.some.inj (Tryd.func6.symm.trans hfn)).symm
      exact ⟨by kernel_rfl, fun j t ht => by
        rw [Tryd.params6] at ht
        have hm : t ∈ [23, 2] := by simpa using Array.mem_of_getElem? ht
        have hall : ([23, 2].all fun u => !Tryd.prog.wantsStandIn u) = true := by kernel_rfl
        exact (show Tryd.prog.wantsStandIn t = false by simpa using List.all_eq_true.1 hall t hm)⟩)
    (by kernel_rfl)
#print axioms proved
end Go.Proofs.YtameffdjjcpbkaaDoor.calMoments
