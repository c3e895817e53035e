/-
  CalZones returns true for every date and every zone: of two dates that are alike but for their Zones, both of them right, the moments are as many minutes apart.
  Conditions: none (every input); the listed table of months' lengths stands as the program's text lays it (the card ties it).
-/
import Derived.Test.YtameffdjjcpbkaaDoorFrame
import Derived.Test.YtameffdjjcpbkaaDoorMoment
namespace Go.Proofs.YtameffdjjcpbkaaDoor.calZones
open Go.ChangeShapes Go.WideShapes Go.ChangeAt Go.RowKit Go.Joins

/-- What Nanos answers, whatever the date. -/
def NanosAns (y m d h i s n z : Int) (a r : Int) : Prop :=
  (r = 0 ∧ rightB y m d h i s n z = true ∧ a = nanosI y m d h i s n z) ∨ (r = 1 ∧ a = 0 ∧ rightB y m d h i s n z = false)
theorem nanos_any (y m d h i s n z : Int) (w : World) (ht : Tab w) :
    Calls Tryd.prog 12 #[.agg #[.int .i64 y, .int .i64 m, .int .i64 d, .int .i64 h, .int .i64 i, .int .i64 s, .int .i64 n, .int .i64 z]] w
      fun e w' => ∃ a r, e = .returned (.tuple #[.int .i64 a, .int .i64 r]) ∧ NanosAns y m d h i s n z a r ∧ Below w.heap.size w w' := by
  by_cases hr : rightB y m d h i s n z = true
  · exact (nanos_yes y m d h i s n z w ht hr).mono fun e w' ⟨he, hb⟩ => ⟨_, _, he, .inl ⟨rfl, hr, rfl⟩, hb⟩
  · have hr' : rightB y m d h i s n z = false := by simpa using hr
    exact (nanos_no y m d h i s n z w ht hr').mono fun e w' ⟨he, hb⟩ => ⟨_, _, he, .inr ⟨rfl, rfl, hr'⟩, hb⟩

set_option maxHeartbeats 1000000 in
theorem walk (y m d h i s n z zone : Int) (w : World) (ht : Tab w) :
    Calls Tryd.prog 8 #[.agg #[.int .i64 y, .int .i64 m, .int .i64 d, .int .i64 h, .int .i64 i, .int .i64 s, .int .i64 n, .int .i64 z], .int .i64 zone] w
      fun e w' => e = .returned (.bool true) ∧ Below w.heap.size w w' := by
  have hb : Below w.heap.size w (w.alloc (.cells #[.int .i64 y, .int .i64 m, .int .i64 d, .int .i64 h, .int .i64 i, .int .i64 s, .int .i64 n, .int .i64 z] 23)) := (Below.refl _ _).alloc (Nat.le_refl _) _
  have ht1 := ht.below hb
  go_enter Tryd.func8, Tryd.ntmps8
  go_wp2_with fail
  refine (shown_any _ ht1).mono ?_
  rintro e w2 ⟨rfl, hb2⟩
  have ht2 := ht1.below hb2
  have B2 : Below w.heap.size w w2 := hb.trans (hb2.mono (by simp))
  obtain ⟨hc2, hf2⟩ := bcell hb2
  have hz : w.heap.size < w2.heap.size := by have := hb2.size; simp at this; omega
  clear ht ht1 hb
  have ht3 : Tab (w2.alloc (.cells #[.int .i64 y, .int .i64 m, .int .i64 d, .int .i64 h, .int .i64 i, .int .i64 s, .int .i64 n, .int .i64 zone] 23)) := ht2.alloc _
  have hb3 : Below w2.heap.size w2 (w2.alloc (.cells #[.int .i64 y, .int .i64 m, .int .i64 d, .int .i64 h, .int .i64 i, .int .i64 s, .int .i64 n, .int .i64 zone] 23)) := (Below.refl _ _).alloc (Nat.le_refl _) _
  have B3 := B2.trans (hb3.mono B2.size)
  clear ht2
  go_wp2_with fail
  refine (nanos_any _ _ _ _ _ _ _ _ _ ht3).mono ?_
  rintro e w4 ⟨a, r, rfl, ha, hb4⟩
  have ht4 := ht3.below hb4
  have B4 : Below w.heap.size w w4 := B3.trans (hb4.mono B3.size)
  obtain ⟨hc4, hf4⟩ := bcell hb4
  have hz4 : w2.heap.size < w4.heap.size := by have := hb4.size; simp at this; omega
  have HA := Lib.hid ha
  clear ht3 ha
  go_wp2_with fail
  refine (nanos_any _ _ _ _ _ _ _ _ _ ht4).mono ?_
  rintro e w5 ⟨b, q, rfl, ha', hb5⟩
  have B5 : Below w.heap.size w w5 := B4.trans (hb5.mono B4.size)
  obtain ⟨hc5, hf5⟩ := bcell hb5
  have hz5 : w.heap.size < w4.heap.size := by omega
  rcases HA.out with ⟨rfl, hr, rfl⟩ | ⟨rfl, rfl, hr⟩
  · rcases ha' with ⟨rfl, hr', rfl⟩ | ⟨rfl, rfl, hr'⟩
    · have b1 := nanosI_bd hr
      have b2 := nanosI_bd hr'
      obtain ⟨_, _, _, _, _, _, _, ⟨z1, z2⟩⟩ := (right_iff ..).1 hr
      obtain ⟨_, _, _, _, _, _, _, ⟨x1, x2⟩⟩ := (right_iff ..).1 hr'
      have key : nanosI y m d h i s n z - nanosI y m d h i s n zone = (zone - z) * 60000000000 := by unfold nanosI; omega
      generalize nanosI y m d h i s n z = N at b1 key ⊢
      generalize nanosI y m d h i s n zone = M at b2 key ⊢
      have kb : -200000000000000 ≤ N - M ∧ N - M ≤ 200000000000000 := by omega
      have ke : (N - M == (zone - z) * 60000000000) = true := beq_iff_eq.2 key
      clear key hr hr' HA b1 b2
      go_wp2
      go_ret
      exact ⟨rfl, B5⟩
    · go_wp2
      go_ret
      exact ⟨rfl, B5⟩
  · go_wp2
    go_ret
    exact ⟨rfl, B5⟩

set_option maxRecDepth 100000 in
theorem lifted (os : Os) (started : os.Started) (H : Type) (enc : TypeId × Value → H) :
    ReturnsInHanded {} Tryd.checked os 8 .any (fun w args => (Rows.calZonesSpec.pre enc Tryd.prog Tryd.f8 [] false w args ∧ laidMetH Tryd.prog laid1 w) ∧ sizedMet enc Tryd.prog Tryd.f8 (OpenSpec.ofChange Rows.calZonesSpec) false w args)
      (Rows.calZonesSpec.post enc Tryd.prog Tryd.f8 false true false false) := by
  refine returnsInHanded_of_change_and (C := Tryd.checked) (X := fun w _ => laidMetH Tryd.prog laid1 w) (fun _ _ _ hh h => h.of_heap hh) own started (by kernel_rfl) Tryd.func8
    (ChangeSpec.witness_shaped (enc := enc) (C := Tryd.checked) (os := os) (X := fun w _ => laidMetH Tryd.prog laid1 w) false (World.doorLaid Tryd.prog 400 os) #[.agg #[.int .i64 0, .int .i64 0, .int .i64 0, .int .i64 0, .int .i64 0, .int .i64 0, .int .i64 0, .int .i64 0], .int .i64 0] 8 rfl (World.shaped_of_RefB (by kernel_rfl) (by kernel_rfl)) (by kernel_rfl) (by kernel_rfl) (by kernel_rfl) (door_met os _)) ?_
  intro W base args ds gs before hval0 hW _ _ hL _
  have hval : ∀ (j : Nat) t v, Tryd.f8.params[j]? = some t → args[j]? = some v → Value.okWide Tryd.prog W .any base t v := hval0
  have hW' := hW
  obtain ⟨p, q, hA0, hV, rfl, hfz, hnd⟩ := hW
  have hA : DataW.TrodAll enc Tryd.prog W 0 (fun _ => true) true Tryd.f8.params.toList args.toList ds p := hA0
  rw [Tryd.params8] at hA hval
  obtain ⟨v0, vs0, d0, ds0, p0, q0, hargs, rfl, rfl, h0, r0⟩ := trodAll_cons hA
  obtain ⟨v1, vs1, d1, ds1, p1, q1, rfl, rfl, rfl, h1, r1⟩ := trodAll_cons r0
  obtain ⟨rfl, rfl, rfl⟩ := trodAll_nil r1
  obtain rfl : args = #[v0, v1] := by cases args; simp_all
  obtain ⟨rfl, rfl⟩ := trodVars_none hV
  have k0 := h0
  have lt0 : ∀ x ∈ p0, x.block < W.heap.size := by obtain ⟨m, hm⟩ := k0; exact DataW.trod_lt m _ _ _ hm
  obtain ⟨y, m, d, h, i, s, n, z, rfl, rfl, rfl, w0⟩ := open_ints8 Tryd.underlying23 (by kernel_rfl) cells23 Tryd.underlying3 rfl rfl rfl rfl rfl rfl rfl rfl (hval 0 23 v0 rfl rfl) h0
  obtain ⟨zone, rfl, rfl, rfl, w1⟩ := open_int Tryd.underlying3 (hval 1 3 v1 rfl rfl) h1
  clear hA0 hval0
  simp only [List.append_nil] at hW'
  refine (walk y m d h i s n z zone W (tab_of_laid hL)).mono fun e W' ⟨he, bel⟩ => ?_
  subst he
  exact ⟨_, rfl, _, _, _, [], _, [], hW', trodAll_mk1 (shut_bool Tryd.underlying4 _), (trodAll_cons_mk (Below.trod laidOut (by kernel_rfl) (of_decide_eq_true (by kernel_rfl)) k0 bel lt0) (trodAll_cons_mk (shut_int Tryd.underlying3 w1) trodAll_mk0)), rfl, bel.frame _, fun h => by cases h⟩

theorem over : Rows.calZonesRow.holds Tryd.pinned (OpenSpec.ofChange Rows.calZonesSpec) :=
  OpenClaim.holds_of_wide 8 Tryd.f8 rfl rfl rfl rfl rfl rfl rfl ⟨rfl, rfl, rfl, rfl, rfl⟩ rfl rfl rfl rfl rfl (by kernel_rfl) Tryd.func8 (by kernel_rfl)
    (of_decide_eq_true (by kernel_rfl)) (by unfold Func.isWrapper; first | (rw [if_pos (by decide +kernel)]; kernel_rfl) | (rw [if_neg (by decide +kernel)]; exact ⟨rfl, rfl⟩))
    (fun os started H enc _ => lifted os started H enc)

theorem proved : Rows.CalZonesCardSaid :=
  Claim7.holds_tied_plain_at .later [] [.data] true (true, "b91ebcdce503558ee3eebdc8f77ed00e8ad788aa52bd3cf20abb8b454fe661a6") false
    over (fun _ h => by cases h) (by kernel_rfl) (fun _ h => by cases h) calZones_row_tie rfl ⟨rfl, rfl⟩ (by kernel_rfl) rfl
    (fun f fn hf hfn => by
      obtain rfl : f = 8 := Option.some.inj ((show Tryd.prog.funcNamed "tabulary/tabularylaw04.CalZones" = some 8 by kernel_rfl).symm.trans hf) |>.symm
      obtain rfl : fn = Tryd.f8 := (Option.some.inj (Tryd.func8.symm.trans hfn)).symm
      exact ⟨by kernel_rfl, fun j t ht => by
        rw [Tryd.params8] at ht
        have hm : t ∈ [23, 3] := by simpa using Array.mem_of_getElem? ht
        have hall : ([23, 3].all fun u => !Tryd.prog.wantsStandIn u) = true := by kernel_rfl
        exact (show Tryd.prog.wantsStandIn t = false by simpa using List.all_eq_true.1 hall t hm)⟩)
    (by kernel_rfl)
#print axioms proved
end Go.Proofs.YtameffdjjcpbkaaDoor.calZones
