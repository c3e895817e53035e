/-
  CalRises returns true for every year, month and day: days rise one by one, from each to the next one; each year has 365 of them, or 366, if it is a leap year.
  Conditions: none (every input); the listed table of months' lengths stands as the program's text lays it (the card ties it).
-/
import Derived.Test.YtameffdjjcpbkaaDoorFrame
import Derived.Test.YtameffdjjcpbkaaDoorMoment
namespace Go.Proofs.YtameffdjjcpbkaaDoor.calRises
open Go.ChangeShapes Go.WideShapes Go.ChangeAt Go.RowKit Go.Joins

theorem right0 {y m d : Int} (h1 : 1700 ≤ y) (h2 : y ≤ 2250) (h3 : 1 ≤ d) (h4 : d ≤ lenI y m) : rightB y m d 0 0 0 0 0 = true := (right_iff ..).2 ⟨⟨h1, h2⟩, ⟨h3, h4⟩, by omega⟩
theorem first_right (y : Int) (h1 : 1700 ≤ y) (h2 : y ≤ 2250) : rightB y 1 1 0 0 0 0 0 = true := right0 h1 h2 (by omega) (by have := lenI_pos y 1 (by omega) (by omega); omega)
theorem first_days (y : Int) : daysI y 1 1 = dby y - 719162 := by unfold daysI; rw [cum_one]; omega
/-- The next day. -/
theorem next_day {y m d : Int} (h1 : 1700 ≤ y) (h2 : y < 2250) (h3 : 1 ≤ d) (h4 : d ≤ lenI y m) :
    (d + 1 ≤ lenI y m ∧ rightB y m (d + 1) 0 0 0 0 0 = true ∧ daysI y m (d + 1) = daysI y m d + 1) ∨
    (lenI y m < d + 1 ∧ m < 12 ∧ rightB y (m + 1) 1 0 0 0 0 0 = true ∧ daysI y (m + 1) 1 = daysI y m d + 1) ∨
    (lenI y m < d + 1 ∧ m = 12 ∧ rightB (y + 1) 1 1 0 0 0 0 0 = true ∧ daysI (y + 1) 1 1 = daysI y m d + 1) := by
  obtain ⟨m1, m2⟩ := month_of_day h3 h4
  have cs := cum_succ y m m1 m2
  by_cases hd : d + 1 ≤ lenI y m
  · exact .inl ⟨hd, right0 h1 (by omega) (by omega) hd, by unfold daysI; omega⟩
  · by_cases hm : m < 12
    · refine .inr (.inl ⟨by omega, hm, right0 h1 (by omega) (by omega) (by have := lenI_pos y (m + 1) (by omega) (by omega); omega), ?_⟩)
      unfold daysI; rw [cs]; omega
    · obtain rfl : m = 12 := by omega
      refine .inr (.inr ⟨by omega, rfl, first_right _ (by omega) (by omega), ?_⟩)
      rw [first_days, dby_succ]
      have c13 := cum_13 y
      have e13 : (12 : Int) + 1 = 13 := rfl
      rw [e13, c13] at cs
      unfold daysI; omega

/-- What comes behind the next day's: the year's days. -/
theorem year_days (y : Int) : daysI (y + 1) 1 1 - daysI y 1 1 = if leapB y = true then 366 else 365 := by
  rw [first_days, first_days, dby_succ]; unfold lp; split <;> omega
theorem walk_no (y m d : Int) (w : World) (ht : Tab w) (hr : rightB y m d 0 0 0 0 0 = false) :
    Calls Tryd.prog 7 #[.int .i64 y, .int .i64 m, .int .i64 d] w fun e w' => e = .returned (.bool true) ∧ Below w.heap.size w w' := by
  go_enter Tryd.func7, Tryd.ntmps7
  go_wp2_with fail
  refine (shown_any _ ht).mono ?_
  rintro e w1 ⟨rfl, hb1⟩
  have ht1 := ht.below hb1
  clear ht
  go_wp2_with fail
  refine (days_no _ _ _ _ ht1 hr).mono ?_
  rintro e w2 ⟨rfl, hb2⟩
  go_wp2
  go_ret
  exact ⟨rfl, hb1.trans (hb2.mono hb1.size)⟩
theorem walk_last (y m d : Int) (w : World) (ht : Tab w) (hr : rightB y m d 0 0 0 0 0 = true) (hy : 2250 ≤ y) :
    Calls Tryd.prog 7 #[.int .i64 y, .int .i64 m, .int .i64 d] w fun e w' => e = .returned (.bool true) ∧ Below w.heap.size w w' := by
  go_enter Tryd.func7, Tryd.ntmps7
  go_wp2_with fail
  refine (shown_any _ ht).mono ?_
  rintro e w1 ⟨rfl, hb1⟩
  have ht1 := ht.below hb1
  clear ht
  go_wp2_with fail
  refine (days_yes _ _ _ _ ht1 hr).mono ?_
  rintro e w2 ⟨rfl, hb2⟩
  generalize daysI y m d = N
  go_wp2
  go_ret
  exact ⟨rfl, hb1.trans (hb2.mono hb1.size)⟩
set_option maxHeartbeats 2000000 in
set_option maxRecDepth 100000 in
theorem walk_yes (y m d : Int) (w : World) (ht : Tab w) (hr : rightB y m d 0 0 0 0 0 = true) (hy : y < 2250) :
    Calls Tryd.prog 7 #[.int .i64 y, .int .i64 m, .int .i64 d] w fun e w' => e = .returned (.bool true) ∧ Below w.heap.size w w' := by
  obtain ⟨⟨y1, y2⟩, ⟨d1, d2⟩, _⟩ := (right_iff ..).1 hr
  obtain ⟨m1, m2⟩ := month_of_day d1 d2
  have hl := lenI_bd y m
  have nb := daysI_bd y1 y2 d1 d2
  have ra := first_right y (by omega) (by omega)
  have rb := first_right (y + 1) (by omega) (by omega)
  have ba := dby_bd y (by omega) (by omega)
  have bb := dby_bd (y + 1) (by omega) (by omega)
  have ea := first_days y
  have eb := first_days (y + 1)
  have yd := year_days y
  have ND := Lib.hid (next_day y1 hy d1 d2)
  generalize hA : daysI y 1 1 = A at ea yd
  generalize hB : daysI (y + 1) 1 1 = B at eb yd
  have a1 : -800000 ≤ A ∧ A ≤ 4000000 := by omega
  have b1 : -800000 ≤ B ∧ B ≤ 4000000 := by omega
  have HA := Lib.hid hA
  have HB := Lib.hid hB
  have YD := Lib.hid yd
  clear ea eb yd hA hB ba bb y2
  go_enter Tryd.func7, Tryd.ntmps7
  go_wp2_with fail
  refine (shown_any _ ht).mono ?_
  rintro e w1 ⟨rfl, hb1⟩
  have ht1 := ht.below hb1
  clear ht
  go_wp2_with fail
  refine (days_yes _ _ _ _ ht1 hr).mono ?_
  rintro e w2 ⟨rfl, hb2⟩
  have ht2 := ht1.below hb2
  have B2 := hb1.trans (hb2.mono hb1.size)
  clear ht1 hb1 hb2
  rcases ND.out with ⟨c1, hR, hD⟩ | ⟨c1, c2, hR, hD⟩ | ⟨c1, rfl, hR, hD⟩
  all_goals
    have HD := Lib.hid hD
    clear hD ND
    go_wp2_with (go_at_call 16; refine (length_any _ _ _ ht2).mono ?_; rintro e w' ⟨rfl, rfl⟩)
    refine (days_yes _ _ _ _ ht2 hR).mono ?_
    rintro e w3 ⟨rfl, hb3⟩
    have ht3 := ht2.below hb3
    have B3 := B2.trans (hb3.mono B2.size)
    rw [HD.out]
    clear ht2 hb3 B2
    go_wp2_with fail
    refine (days_yes _ _ _ _ ht3 ra).mono ?_
    rintro e w4 ⟨rfl, hb4⟩
    have ht4 := ht3.below hb4
    have B4 := B3.trans (hb4.mono B3.size)
    rw [HA.out]
    clear ht3 hb4 B3
    go_wp2_with fail
    refine (days_yes _ _ _ _ ht4 rb).mono ?_
    rintro e w5 ⟨rfl, hb5⟩
    have B5 := B4.trans (hb5.mono B4.size)
    rw [HB.out]
    clear ht4 hb5 B4 ra rb hR hr HA HB HD
    generalize daysI y _ d = N at nb ⊢
    by_cases hleap : leapB y = true
    · have ye : (B - A == 366) = true := by have := YD.out; rw [if_pos hleap] at this; exact beq_iff_eq.2 this
      clear YD
      go_wp2_with (go_at_call 14; refine (leap_any _ _).mono ?_; rintro e w' ⟨rfl, rfl⟩)
      go_ret
      exact ⟨rfl, B5⟩
    · have hf : leapB y = false := by simpa using hleap
      have ye : (B - A == 365) = true := by have := YD.out; rw [if_neg hleap] at this; exact beq_iff_eq.2 this
      clear YD hleap
      go_wp2_with (go_at_call 14; refine (leap_any _ _).mono ?_; rintro e w' ⟨rfl, rfl⟩)
      go_ret
      exact ⟨rfl, B5⟩
theorem walk (y m d : Int) (w : World) (ht : Tab w) :
    Calls Tryd.prog 7 #[.int .i64 y, .int .i64 m, .int .i64 d] w fun e w' => e = .returned (.bool true) ∧ Below w.heap.size w w' := by
  by_cases hr : rightB y m d 0 0 0 0 0 = true
  · by_cases hy : y < 2250
    · exact walk_yes y m d w ht hr hy
    · exact walk_last y m d w ht hr (by omega)
  · exact walk_no y m d w ht (by simpa using hr)

set_option maxRecDepth 100000 in
theorem lifted (os : Os) (started : os.Started) (H : Type) (enc : TypeId × Value → H) :
    ReturnsInHanded {} Tryd.checked os 7 .any (fun w args => (Rows.calRisesSpec.pre enc Tryd.prog Tryd.f7 [] false w args ∧ laidMetH Tryd.prog laid1 w) ∧ sizedMet enc Tryd.prog Tryd.f7 (OpenSpec.ofChange Rows.calRisesSpec) false w args)
      (Rows.calRisesSpec.post enc Tryd.prog Tryd.f7 false true false false) := by
  refine returnsInHanded_of_change_and (C := Tryd.checked) (X := fun w _ => laidMetH Tryd.prog laid1 w) (fun _ _ _ hh h => h.of_heap hh) own started (by kernel_rfl) Tryd.func7
    (ChangeSpec.witness_shaped (enc := enc) (C := Tryd.checked) (os := os) (X := fun w _ => laidMetH Tryd.prog laid1 w) false (World.doorLaid Tryd.prog 400 os) #[.int .i64 0, .int .i64 0, .int .i64 0] 8 rfl (World.shaped_of_RefB (by kernel_rfl) (by kernel_rfl)) (by kernel_rfl) (by kernel_rfl) (by kernel_rfl) (door_met os _)) ?_
  intro W base args ds gs before hval0 hW _ _ hL _
  have hval : ∀ (j : Nat) t v, Tryd.f7.params[j]? = some t → args[j]? = some v → Value.okWide Tryd.prog W .any base t v := hval0
  have hW' := hW
  obtain ⟨p, q, hA0, hV, rfl, hfz, hnd⟩ := hW
  have hA : DataW.TrodAll enc Tryd.prog W 0 (fun _ => true) true Tryd.f7.params.toList args.toList ds p := hA0
  rw [Tryd.params7] at hA hval
  obtain ⟨v0, vs0, d0, ds0, p0, q0, hargs, rfl, rfl, h0, r0⟩ := trodAll_cons hA
  obtain ⟨v1, vs1, d1, ds1, p1, q1, rfl, rfl, rfl, h1, r1⟩ := trodAll_cons r0
  obtain ⟨v2, vs2, d2, ds2, p2, q2, rfl, rfl, rfl, h2, r2⟩ := trodAll_cons r1
  obtain ⟨rfl, rfl, rfl⟩ := trodAll_nil r2
  obtain rfl : args = #[v0, v1, v2] := by cases args; simp_all
  obtain ⟨rfl, rfl⟩ := trodVars_none hV
  obtain ⟨y, rfl, rfl, rfl, w0⟩ := open_int Tryd.underlying3 (hval 0 3 v0 rfl rfl) h0
  obtain ⟨m, rfl, rfl, rfl, w1⟩ := open_int Tryd.underlying3 (hval 1 3 v1 rfl rfl) h1
  obtain ⟨d, rfl, rfl, rfl, w2⟩ := open_int Tryd.underlying3 (hval 2 3 v2 rfl rfl) h2
  clear hA0 hval0
  simp only [List.append_nil] at hW'
  refine (walk y m d W (tab_of_laid hL)).mono fun e W' ⟨he, bel⟩ => ?_
  subst he
  exact ⟨_, rfl, _, _, _, [], _, [], hW', trodAll_mk1 (shut_bool Tryd.underlying4 _), (trodAll_cons_mk (shut_int Tryd.underlying3 w0) (trodAll_cons_mk (shut_int Tryd.underlying3 w1) (trodAll_cons_mk (shut_int Tryd.underlying3 w2) trodAll_mk0))), rfl, bel.frame _, fun h => by cases h⟩

theorem over : Rows.calRisesRow.holds Tryd.pinned (OpenSpec.ofChange Rows.calRisesSpec) :=
  OpenClaim.holds_of_wide 7 Tryd.f7 rfl rfl rfl rfl rfl rfl rfl ⟨rfl, rfl, rfl, rfl, rfl⟩ rfl rfl rfl rfl rfl (by kernel_rfl) Tryd.func7 (by kernel_rfl)
    (of_decide_eq_true (by kernel_rfl)) (by unfold Func.isWrapper; first | (rw [if_pos (by decide +kernel)]; kernel_rfl) | (rw [if_neg (by decide +kernel)]; exact ⟨rfl, rfl⟩))
    (fun os started H enc _ => lifted os started H enc)

theorem proved : Rows.CalRisesCardSaid :=
  Claim7.holds_tied_plain_at .later [] [.data] true (true, "b91ebcdce503558ee3eebdc8f77ed00e8ad788aa52bd3cf20abb8b454fe661a6") false
    over (fun _ h => by cases h) (by kernel_rfl) (fun _ h => by cases h) calRises_row_tie rfl ⟨rfl, rfl⟩ (by kernel_rfl) rfl
    (fun f fn hf hfn => by
      obtain rfl : f = 7 := Option.some.inj ((show Tryd.prog.funcNamed "tabulary/tabularylaw04.CalRises" = some 7 by kernel_rfl).symm.trans hf) |>.symm
      obtain rfl : fn = Tryd.f7 := (Option.some.inj (Tryd.func7.symm.trans hfn)).symm
      exact ⟨by kernel_rfl, fun j t ht => by
        rw [Tryd.params7] at ht
        have hm : t ∈ [3, 3, 3] := by simpa using Array.mem_of_getElem? ht
        have hall : ([3, 3, 3].all fun u => !Tryd.prog.wantsStandIn u) = true := by kernel_rfl
        exact (show Tryd.prog.wantsStandIn t = false by simpa using List.all_eq_true.1 hall t hm)⟩)
    (by kernel_rfl)
#print axioms proved
end Go.Proofs.YtameffdjjcpbkaaDoor.calRises
