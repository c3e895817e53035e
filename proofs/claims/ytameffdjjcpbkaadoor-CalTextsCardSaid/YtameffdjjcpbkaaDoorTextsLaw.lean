/-
  CalTexts returns true for every date and every text: the text that cal.Text tells of a date, and the date that cal.Parse reads of a text, with what is left and the error, are the document's own answers.
  Conditions: none (every input); the listed tables (months' lengths, and the library's) stand as the program's text lays them (the card ties them).
-/
import Derived.Test.YtameffdjjcpbkaaDoorFour
import Derived.Test.YtameffdjjcpbkaaDoorBack
import Derived.Test.YtameffdjjcpbkaaDoorRefYes
import Derived.Test.YtameffdjjcpbkaaDoorRefParse
namespace Go.Proofs.YtameffdjjcpbkaaDoor.calTexts
open Go.ChangeShapes Go.WideShapes Go.ChangeAt Go.RowKit Go.Joins
open Go.ChangeMaps (open_string shut_string)
open Go.Proofs.YtameffdjjcpbkaaDoor.calBack

abbrev dv (y m d h i s n z : Int) : Value := .agg #[.int .i64 y, .int .i64 m, .int .i64 d, .int .i64 h, .int .i64 i, .int .i64 s, .int .i64 n, .int .i64 z]
/-- What both tell of a date. -/
theorem texts (y m d h i s n z : Int) : ∃ (T : ByteArray) (er : Int),
    (∀ w, Tab w → Pow w → Calls Tryd.prog 22 #[.agg #[.int .i64 y, .int .i64 m, .int .i64 d, .int .i64 h, .int .i64 i, .int .i64 s, .int .i64 n, .int .i64 z]] w fun e w' => e = .returned (.tuple #[.string T, .int .i64 er]) ∧ Below w.heap.size w w') ∧
    (∀ w, Calls Tryd.prog 23 #[.agg #[.int .i64 y, .int .i64 m, .int .i64 d, .int .i64 h, .int .i64 i, .int .i64 s, .int .i64 n, .int .i64 z]] w fun e w' => e = .returned (.tuple #[.string T, .int .i64 er]) ∧ Below w.heap.size w w') := by
  by_cases hr : rightB y m d h i s n z = true
  · exact ⟨_, _, fun w ht hp => text_yes y m d h i s n z w ht hp hr, fun w => rtext_yes y m d h i s n z w hr⟩
  · have hr' : rightB y m d h i s n z = false := by simpa using hr
    exact ⟨_, _, fun w ht hp => text_no y m d h i s n z w ht hr', fun w => rtext_no y m d h i s n z w hr'⟩
theorem rparse_t {X : ByteArray} {L : List UInt8} {w : World} (h : X = bytes L) (hl : L.length ≤ 9223372036854775807) : Calls Tryd.prog 25 #[.string X] w (RParseAns L w) := by
  rw [h]; exact rparse_any L w hl
set_option maxHeartbeats 4000000 in
set_option maxRecDepth 100000 in
theorem walk (y m d h i s n z : Int) (s0 : ByteArray) (w : World) (ht : Tab w) (hp : Pow w) (hs : s0.size ≤ 9223372036854775807) :
    Calls Tryd.prog 4 #[.agg #[.int .i64 y, .int .i64 m, .int .i64 d, .int .i64 h, .int .i64 i, .int .i64 s, .int .i64 n, .int .i64 z], .string s0] w
      fun e w' => e = .returned (.bool true) ∧ Below w.heap.size w w' := by
  have hb : Below w.heap.size w (w.alloc (.cells #[.int .i64 y, .int .i64 m, .int .i64 d, .int .i64 h, .int .i64 i, .int .i64 s, .int .i64 n, .int .i64 z] 23)) := (Below.refl _ _).alloc (Nat.le_refl _) _
  have ht1 := ht.below hb
  have hp1 := hp.below hb
  obtain ⟨T, er, hT1, hT2⟩ := texts y m d h i s n z
  have HT1 := Lib.hid hT1
  have HT2 := Lib.hid hT2
  clear hT1 hT2
  go_enter Tryd.func4, Tryd.ntmps4
  go_wp2_with fail
  refine (shown_any _ ht1).mono ?_
  rintro e w2 ⟨rfl, hb2⟩
  have ht2 := ht1.below hb2
  have hp2 := hp1.below hb2
  have B2 : Below w.heap.size w w2 := hb.trans (hb2.mono (by simp))
  obtain ⟨hc2, hf2⟩ := bcell hb2
  have hz : w.heap.size < w2.heap.size := by have := hb2.size; simp at this; omega
  clear ht ht1 hb hb2 hp hp1
  go_wp2_with fail
  refine (HT1.out _ ht2 hp2).mono ?_
  rintro e w5 ⟨rfl, hb5⟩
  have TT := ht2.below hb5
  have BB := B2.trans (hb5.mono B2.size)
  obtain ⟨hc5, hf5⟩ := bcell hb5
  have hzb : w.heap.size < w5.heap.size := Nat.lt_of_lt_of_le hz hb5.size
  clear ht2 hp2 B2 hb5
  go_wp2_with fail
  refine (HT2.out _).mono ?_
  rintro e w6 ⟨rfl, hb6⟩
  have T6 := TT.below hb6
  have B6 := BB.trans (hb6.mono BB.size)
  clear TT BB hb6 hc2 hf2 hc5 hf5
  go_wp2_with fail
  refine (parse_t (bytes_self s0).symm T6 (by rw [list_size]; omega)).mono ?_
  rintro e w7 ⟨Y, M, D, Hh, Ii, Ss, Kk, Zz, t, err, rfl, hpa, hb7⟩
  have B7 := B6.trans (hb7.mono B6.size)
  have HR := Lib.hid (parsed_ref hpa)
  have b78 : Below w7.heap.size w7 (w7.alloc (.cells #[.int .i64 Y, .int .i64 M, .int .i64 D, .int .i64 Hh, .int .i64 Ii, .int .i64 Ss, .int .i64 Kk, .int .i64 Zz] 23)) := (Below.refl _ _).alloc (Nat.le_refl _) _
  have B8 := B7.trans (b78.mono B7.size)
  clear hpa hb7 T6 B6
  go_wp2_with fail
  refine (rparse_t (bytes_self s0).symm (by rw [list_size]; omega)).mono ?_
  rintro e w9 ⟨Y', M', D', Hh', Ii', Ss', Kk', Zz', t', err', rfl, hrp, hb9⟩
  have hq := HR.out.symm.trans hrp
  simp only [Prod.mk.injEq] at hq
  obtain ⟨rfl, rfl, rfl, rfl, rfl, rfl, rfl, rfl, rfl, rfl⟩ := hq
  have B9 := B8.trans (hb9.mono B8.size)
  obtain ⟨hc9, hf9⟩ := bcell hb9
  have hz9 : w7.heap.size < w9.heap.size := by have := hb9.size; simp at this; omega
  clear hrp HR b78 B7 B8 hb9
  obtain ⟨U, hU⟩ : ∃ U, bytes t = U := ⟨_, rfl⟩
  rw [hU]
  clear hU
  go_wp2
  go_ret
  exact ⟨rfl, B9.alloc B9.size _⟩

set_option maxRecDepth 100000 in
theorem lifted (os : Os) (started : os.Started) (H : Type) (enc : TypeId × Value → H) :
    ReturnsInHanded {} Tryd.checked os 4 .any (fun w args => (Rows.calTextsSpec.pre enc Tryd.prog Tryd.f4 [] false w args ∧ laidMetH Tryd.prog laid4 w) ∧ sizedMet enc Tryd.prog Tryd.f4 (OpenSpec.ofChange Rows.calTextsSpec) false w args)
      (Rows.calTextsSpec.post enc Tryd.prog Tryd.f4 false true false false) := by
  refine returnsInHanded_of_change_and (C := Tryd.checked) (X := fun w _ => laidMetH Tryd.prog laid4 w) (fun _ _ _ hh h => h.of_heap hh) own started (by kernel_rfl) Tryd.func4
    (ChangeSpec.witness_shaped (enc := enc) (C := Tryd.checked) (os := os) (X := fun w _ => laidMetH Tryd.prog laid4 w) false (World.doorLaid Tryd.prog 400 os) #[.agg #[.int .i64 0, .int .i64 0, .int .i64 0, .int .i64 0, .int .i64 0, .int .i64 0, .int .i64 0, .int .i64 0], .string ByteArray.empty] 8 rfl (World.shaped_of_RefB (by kernel_rfl) (by kernel_rfl)) (by kernel_rfl) (by kernel_rfl) (by kernel_rfl) (door_met4 os _)) ?_
  intro W base args ds gs before hval0 hW _ hsz0 hL _
  have hval : ∀ (j : Nat) t v, Tryd.f4.params[j]? = some t → args[j]? = some v → Value.okWide Tryd.prog W .any base t v := hval0
  have hsz : (DataW.weightsEach Tryd.prog (Tryd.f4.params.toList ++ Rows.calTextsSpec.plain.varTypes Tryd.prog) (ds ++ gs)).all (· ≤ reachBytes) = true := hsz0
  have hW' := hW
  obtain ⟨p, q, hA0, hV, rfl, hfz, hnd⟩ := hW
  have hA : DataW.TrodAll enc Tryd.prog W 0 (fun _ => true) true Tryd.f4.params.toList args.toList ds p := hA0
  rw [Tryd.params4] at hA hval hsz
  obtain ⟨v0, vs0, d0, ds0, p0, q0, hargs, rfl, rfl, h0, r0⟩ := trodAll_cons hA
  obtain ⟨v1, vs1, d1, ds1, p1, q1, rfl, rfl, rfl, h1, r1⟩ := trodAll_cons r0
  obtain ⟨rfl, rfl, rfl⟩ := trodAll_nil r1
  obtain rfl : args = #[v0, v1] := by cases args; simp_all
  obtain ⟨rfl, rfl⟩ := trodVars_none hV
  have k0 := h0
  have lt0 : ∀ x ∈ p0, x.block < W.heap.size := by obtain ⟨m, hm⟩ := k0; exact DataW.trod_lt m _ _ _ hm
  obtain ⟨y, m, d, h, i, s, n, z, rfl, rfl, rfl, w0⟩ := open_ints8 Tryd.underlying23 (by kernel_rfl) cells23 Tryd.underlying3 rfl rfl rfl rfl rfl rfl rfl rfl (hval 0 23 v0 rfl rfl) h0
  obtain ⟨s0, rfl, rfl, rfl, ws⟩ := open_string Tryd.underlying9 (hval 1 9 v1 rfl rfl) h1
  have hso : s0.size ≤ 9223372036854775807 := ws
  clear hA0 hval0 hsz0
  simp only [List.append_nil] at hW'
  obtain ⟨hT, hP⟩ := tabs_of_laid hL
  refine (walk y m d h i s n z s0 W hT hP hso).mono fun e W' ⟨he, bel⟩ => ?_
  subst he
  exact ⟨_, rfl, _, _, _, [], _, [], hW', trodAll_mk1 (shut_bool Tryd.underlying4 _), (trodAll_cons_mk (Below.trod laidOut (by kernel_rfl) (of_decide_eq_true (by kernel_rfl)) k0 bel lt0) (trodAll_cons_mk (shut_string Tryd.underlying9 ws) trodAll_mk0)), rfl, bel.frame _, fun h => by cases h⟩

theorem over : Rows.calTextsRow.holds Tryd.pinned (OpenSpec.ofChange Rows.calTextsSpec) :=
  OpenClaim.holds_of_wide 4 Tryd.f4 rfl rfl rfl rfl rfl rfl rfl ⟨rfl, rfl, rfl, rfl, rfl⟩ rfl rfl rfl rfl rfl (by kernel_rfl) Tryd.func4 (by kernel_rfl)
    (of_decide_eq_true (by kernel_rfl)) (by unfold Func.isWrapper; first | (rw [if_pos (by decide +kernel)]; kernel_rfl) | (rw [if_neg (by decide +kernel)]; exact ⟨rfl, rfl⟩))
    (fun os started H enc _ => lifted os started H enc)

theorem proved : Rows.CalTextsCardSaid :=
  Claim7.holds_tied_plain_at .later [] [.data, .data, .data, .data] true (true, "b91ebcdce503558ee3eebdc8f77ed00e8ad788aa52bd3cf20abb8b454fe661a6") false
    over (fun _ h => by cases h) (by kernel_rfl) (fun _ h => by cases h) calTexts_row_tie rfl ⟨rfl, rfl⟩ (by kernel_rfl) rfl
    (fun f fn hf hfn => by
      obtain rfl : f = 4 := Option.some.inj ((show Tryd.prog.funcNamed "tabulary/tabularylaw04.CalTexts" = some 4 by kernel_rfl).symm.trans hf) |>.symm
      obtain rfl : fn = Tryd.f4 := (Option.some.inj (Tryd.func4.symm.trans hfn)).symm
      exact ⟨by kernel_rfl, fun j t ht => by
        rw [Tryd.params4] at ht
        have hm : t ∈ [23, 9] := by simpa using Array.mem_of_getElem? ht
        have hall : ([23, 9].all fun u => !Tryd.prog.wantsStandIn u) = true := by kernel_rfl
        exact (show Tryd.prog.wantsStandIn t = false by simpa using List.all_eq_true.1 hall t hm)⟩)
    (by kernel_rfl)
#print axioms proved
end Go.Proofs.YtameffdjjcpbkaaDoor.calTexts
