/-
  AuditFits returns true for every text, every brief and either keep: what is told of a message fits it, whether it is kept or not; nothing fits what is no message.
  Conditions: none (every input); the listed variables stand as the program's text lays them (the card ties them).
-/
import Derived.Test.YtmmghppjhmdikaaGreatDoorAF29
import Derived.Test.YtmmghppjhmdikaaGreatDoorAF52
import Derived.Test.YtmmghppjhmdikaaGreatDoorAF51
import Derived.Stop.LaidErr
namespace Go.Proofs.YtmmghppjhmdikaaGreatDoor.auditFits
open Go.ChangeShapes Go.WideShapes Go.ChangeAt Go.RowKit Go.Joins
open Go.ChangeMaps (open_string shut_string)

theorem tPow : (Tryz.prog.globals[6]?).map (·.type) = some 179 := by kernel_rfl
theorem cells98 : Tryz.prog.cellsOf 23 = 1 := by kernel_rfl
theorem cells174 : Tryz.prog.cellsOf 179 = 20 := by kernel_rfl
theorem pow_datum : (Rows.laid_internal_strconv_uint64pow10 : DataW Unit) = Lib.tabData .u64 Lib.pow10Tab := by kernel_rfl
theorem pow_of_is {W : World} (h : Lib.TabIs Tryz.prog W "internal/strconv.uint64pow10" .u64 Lib.pow10Tab) : Cal.Pow W := by
  refine ⟨?_, h⟩
  have h0 := h.cell Cal.gPow 0 (by rw [Lib.pow10Tab_length]; omega)
  by_cases hs : 6 < W.heap.size
  · exact hs
  · rw [World.cell?] at h0
    have : W.heap[6]? = none := Array.getElem?_eq_none (by omega)
    simp [this] at h0
theorem pow_of_laid {W : World} (h : laidMetH Tryz.prog laid8 W) : Cal.Pow W := by
  have h6 := laidMet.tail (laidMet.tail (plain8 h))
  rw [pow_datum] at h6
  exact pow_of_is (Lib.tabIs_of_head Cal.gPow tPow Tryz.underlying179 Tryz.underlying23 cells98 cells174 h6)
theorem cells206 : Tryz.prog.cellsOf 177 = 1 := by kernel_rfl
theorem gRange : Tryz.prog.globalNamed "strconv.ErrRange" = some 4 := by kernel_rfl
theorem gSyntax : Tryz.prog.globalNamed "strconv.ErrSyntax" = some 3 := by kernel_rfl
theorem tRange : (Tryz.prog.globals[4]?).map (·.type) = some 96 := by kernel_rfl
theorem tSyntax : (Tryz.prog.globals[3]?).map (·.type) = some 96 := by kernel_rfl
theorem star : "*" ++ "errors.errorString" = "*errors.errorString" := by decide
theorem row204 (u : TypeId) (h : Tryz.prog.typeName? 3 u = some "*errors.errorString") : u = 175 :=
  typeName_ptr_named (nm := "errors.errorString") (by rw [star]; kernel_rfl) (by kernel_rfl) (by decide) u (by rw [star]; exact h)
theorem errs_of_laid {W : World} (h0 : laidMetH Tryz.prog laid8 W) : Errs W := by
  have h4 := laidMet.tail (laidMet.tail (laidMet.tail (laidMet.tail (plain8 h0))))
  obtain ⟨a0, _, hv0, _⟩ := laid_sentinel h4 gRange tRange Tryz.underlying96 row204 Tryz.underlying175 Tryz.underlying177 rfl rfl Tryz.underlying9 cells206 cells9
  obtain ⟨a1, _, hv1, _⟩ := laid_sentinel (laidMet.tail h4) gSyntax tSyntax Tryz.underlying96 row204 Tryz.underlying175 Tryz.underlying177 rfl rfl Tryz.underlying9 cells206 cells9
  have c6 : W.cell? ⟨4, 0, none⟩ = some (.iface 175 (.pointer (some a0))) := by simpa using World.var?_cell gRange hv0 0
  have c5 : W.cell? ⟨3, 0, none⟩ = some (.iface 175 (.pointer (some a1))) := by simpa using World.var?_cell gSyntax hv1 0
  exact ⟨World.block_lt_of_cell? W _ c6, ⟨_, _, c5⟩, _, _, c6⟩

set_option maxRecDepth 100000 in
theorem lifted (os : Os) (started : os.Started) (H : Type) (enc : TypeId × Value → H) :
    ReturnsInHanded {} Tryz.checked os 3 .any (fun w args => (Rows.auditFitsSpec.pre enc Tryz.prog Tryz.f3 [] false w args ∧ laidMetH Tryz.prog laid8 w) ∧ sizedMet enc Tryz.prog Tryz.f3 (OpenSpec.ofChange Rows.auditFitsSpec) false w args)
      (Rows.auditFitsSpec.post enc Tryz.prog Tryz.f3 false true false false) := by
  refine handed_both (C := Tryz.checked) (X := fun w _ => laidMetH Tryz.prog laid8 w) (fun _ _ _ hh h => h.of_heap hh) own started (by kernel_rfl) Tryz.func3
    (ChangeSpec.witness_shaped (enc := enc) (C := Tryz.checked) (os := os) (X := fun w _ => laidMetH Tryz.prog laid8 w) false (World.laidAll Tryz.prog os laid8) #[.string ByteArray.empty, .agg #[.int .i64 0, .int .i64 0, .int .u32 0, .int .u32 0, .int .u64 0, .bool false], .bool false] 8 (World.laidAll_os _ _ _)
      (World.shaped_of_ZipB (by kernel_rfl) (by kernel_rfl)) (by kernel_rfl) (by kernel_rfl) (by kernel_rfl) (met8 os _)) ?_
  intro W base args ds gs before hval0 hW hsz0 hL hsh
  have hval : ∀ (j : Nat) t v, Tryz.f3.params[j]? = some t → args[j]? = some v → Value.okWide Tryz.prog W .any base t v := hval0
  have hW' := hW
  obtain ⟨p, q, hA0, hV, rfl, hfz, hnd⟩ := hW
  have hA : DataW.TrodAll enc Tryz.prog W 0 (fun _ => true) true Tryz.f3.params.toList args.toList ds p := hA0
  rw [Tryz.params3] at hA hval
  obtain ⟨v0, vs0, d0, ds0, p0, q0, hargs, rfl, rfl, h0, r0⟩ := trodAll_cons hA
  obtain ⟨v1, vs1, d1, ds1, p1, q1, rfl, rfl, rfl, h1, r1⟩ := trodAll_cons r0
  obtain ⟨v2, vs2, d2, ds2, p2, q2, rfl, rfl, rfl, h2, r2⟩ := trodAll_cons r1
  obtain ⟨rfl, rfl, rfl⟩ := trodAll_nil r2
  obtain rfl : args = #[v0, v1, v2] := by cases args; simp_all
  obtain ⟨rfl, rfl⟩ := trodVars_none hV
  obtain ⟨s, rfl, rfl, rfl, ws⟩ := open_string Tryz.underlying9 (hval 0 9 v0 rfl rfl) h0
  have k1 := h1
  have lt1 : ∀ x ∈ p1, x.block < W.heap.size := by obtain ⟨m, hm⟩ := k1; exact DataW.trod_lt m _ _ _ hm
  obtain ⟨⟨bf, bl, bg, br, bm, bk⟩, rfl⟩ := open_brief (hval 1 25 v1 rfl rfl) h1
  obtain ⟨k, rfl, rfl, rfl⟩ := open_bool Tryz.underlying4 (hval 2 4 v2 rfl rfl) h2
  clear hA0 hval0 hsz0
  simp only [List.append_nil, List.nil_append] at hW'
  refine (Bf.walk s bf bl bg br bm bk k W (std_of_laid hL) (max_of_shape hsh) (pow_of_laid hL) (errs_of_laid hL)).mono fun r W' ⟨he, bel⟩ => ?_
  subst he
  exact ⟨_, rfl, _, _, _, [], _, [], hW', trodAll_mk1 (shut_bool Tryz.underlying4 _), (trodAll_cons_mk (shut_string Tryz.underlying9 ws) (trodAll_cons_mk (Below.trod laidOut (by kernel_rfl) (of_decide_eq_true (by kernel_rfl)) k1 bel lt1) (trodAll_cons_mk (shut_bool Tryz.underlying4 _) trodAll_mk0))), rfl, bel.frame _, fun h => by cases h⟩

theorem over : Rows.auditFitsRow.holds Tryz.pinned (OpenSpec.ofChange Rows.auditFitsSpec) :=
  OpenClaim.holds_of_wide 3 Tryz.f3 rfl rfl rfl rfl rfl rfl rfl ⟨rfl, rfl, rfl, rfl, rfl⟩ rfl rfl rfl rfl rfl (by kernel_rfl) Tryz.func3 (by kernel_rfl)
    (of_decide_eq_true (by kernel_rfl)) (by unfold Func.isWrapper; first | (rw [if_pos (by decide +kernel)]; kernel_rfl) | (rw [if_neg (by decide +kernel)]; exact ⟨rfl, rfl⟩))
    (fun os started H enc _ => lifted os started H enc)

theorem proved : Rows.AuditFitsCardSaid :=
  Claim7.holds_tied_plain_at .later [] [.data, .data, .data, .data, .sentinel, .sentinel, .data, .pinned] true (true, "6ef8e5128bed923bfea35410335c41c208f8cf4d3a430c339f51e28bf327a26c") true
    over (fun _ h => by cases h) (by kernel_rfl) (fun _ h => by cases h) auditFits_row_tie rfl ⟨rfl, rfl⟩ (by kernel_rfl) rfl
    (fun f fn hf hfn => by
      obtain rfl : f = 3 := Option.some.inj ((show Tryz.prog.funcNamed "tabulary/tabularylaw19.AuditFits" = some 3 by kernel_rfl).symm.trans hf) |>.symm
      obtain rfl : fn = Tryz.f3 := (Option.some.inj (Tryz.func3.symm.trans hfn)).symm
      exact ⟨by kernel_rfl, fun j t ht => by
        rw [Tryz.params3] at ht
        have hm : t ∈ [9, 25, 4] := by simpa using Array.mem_of_getElem? ht
        have hall : ([9, 25, 4].all fun u => !Tryz.prog.wantsStandIn u) = true := by kernel_rfl
        exact (show Tryz.prog.wantsStandIn t = false by simpa using List.all_eq_true.1 hall t hm)⟩)
    (by kernel_rfl)
#print axioms proved
end Go.Proofs.YtmmghppjhmdikaaGreatDoor.auditFits
