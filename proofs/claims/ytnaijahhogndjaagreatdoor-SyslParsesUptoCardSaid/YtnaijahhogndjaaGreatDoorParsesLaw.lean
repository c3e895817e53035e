/-
  SyslParses returns true for every text that the reach admits: the program's Parse and the document's own answer the same event, or both refuse the text.
  Condition: the reach's own bound on sizes (the second form of the statement).
-/
import Derived.Test.YtnaijahhogndjaaGreatDoorPG27
import Derived.Test.YtnaijahhogndjaaGreatDoorPG50
import Derived.Deep.DeepHandedRow
import Derived.Stop.LaidErr
namespace Go.Proofs.YtnaijahhogndjaaGreatDoor.syslParses
open Go.ChangeShapes Go.WideShapes Go.ChangeAt Go.RowKit Go.Joins
open Go.ChangeMaps (open_string shut_string)

abbrev RefGiven : Prop := ∀ (s : ByteArray) (W : World), s.size ≤ 1048576 → Std W → Calls Tryz.prog 24 #[.string s] W (RefParseAns s.data.toList W)
theorem tPow : (Tryz.prog.globals[3]?).map (·.type) = some 174 := by kernel_rfl
theorem cells98 : Tryz.prog.cellsOf 98 = 1 := by kernel_rfl
theorem cells174 : Tryz.prog.cellsOf 174 = 20 := by kernel_rfl
theorem pow_datum : (Rows.laid_internal_strconv_uint64pow10 : DataW Unit) = Lib.tabData .u64 Lib.pow10Tab := by kernel_rfl
theorem pow_of_is {W : World} (h : Lib.TabIs Tryz.prog W "internal/strconv.uint64pow10" .u64 Lib.pow10Tab) : Cal.Pow W := by
  refine ⟨?_, h⟩
  have h0 := h.cell Cal.gPow 0 (by rw [Lib.pow10Tab_length]; omega)
  by_cases hs : 3 < W.heap.size
  · exact hs
  · rw [World.cell?] at h0
    have : W.heap[3]? = none := Array.getElem?_eq_none (by omega)
    simp [this] at h0
theorem pow_of_laid {W : World} (h : laidMetH Tryz.prog laid8 W) : Cal.Pow W := by
  have h6 := laidMet.tail (laidMet.tail (plain8 h))
  rw [pow_datum] at h6
  exact pow_of_is (Lib.tabIs_of_head Cal.gPow tPow Tryz.underlying174 Tryz.underlying98 cells98 cells174 h6)
theorem cells206 : Tryz.prog.cellsOf 206 = 1 := by kernel_rfl
theorem gRange : Tryz.prog.globalNamed "strconv.ErrRange" = some 6 := by kernel_rfl
theorem gSyntax : Tryz.prog.globalNamed "strconv.ErrSyntax" = some 5 := by kernel_rfl
theorem tRange : (Tryz.prog.globals[6]?).map (·.type) = some 116 := by kernel_rfl
theorem tSyntax : (Tryz.prog.globals[5]?).map (·.type) = some 116 := by kernel_rfl
theorem star : "*" ++ "errors.errorString" = "*errors.errorString" := by decide
theorem row204 (u : TypeId) (h : Tryz.prog.typeName? 3 u = some "*errors.errorString") : u = 204 :=
  typeName_ptr_named (nm := "errors.errorString") (by rw [star]; kernel_rfl) (by kernel_rfl) (by decide) u (by rw [star]; exact h)
theorem errs_of_laid {W : World} (h0 : laidMetH Tryz.prog laid8 W) : Errs W := by
  have h4 := laidMet.tail (laidMet.tail (laidMet.tail (laidMet.tail (plain8 h0))))
  obtain ⟨a0, _, hv0, _⟩ := laid_sentinel h4 gRange tRange Tryz.underlying116 row204 Tryz.underlying204 Tryz.underlying206 rfl rfl Tryz.underlying9 cells206 cells9
  obtain ⟨a1, _, hv1, _⟩ := laid_sentinel (laidMet.tail h4) gSyntax tSyntax Tryz.underlying116 row204 Tryz.underlying204 Tryz.underlying206 rfl rfl Tryz.underlying9 cells206 cells9
  have c6 : W.cell? ⟨6, 0, none⟩ = some (.iface 204 (.pointer (some a0))) := by simpa using World.var?_cell gRange hv0 0
  have c5 : W.cell? ⟨5, 0, none⟩ = some (.iface 204 (.pointer (some a1))) := by simpa using World.var?_cell gSyntax hv1 0
  exact ⟨World.block_lt_of_cell? W _ c6, ⟨_, _, c5⟩, _, _, c6⟩
set_option maxRecDepth 100000 in
theorem contract (HR : RefGiven) (H : Type) (enc : TypeId × Value → H) (W : World) (base : Nat) (args : Array Value) (ds gs : List (DataW H)) (before : List MemPlace)
    (hval0 : ∀ (j : Nat) t v, Tryz.f4.params[j]? = some t → args[j]? = some v → Value.okWide Tryz.prog W .any base t v)
    (hW : DataW.Whole enc Tryz.prog Tryz.f4.params.toList Rows.syslParsesSpec.vars false W args.toList ds gs before) (hk : Rows.uptoSmall H (ds ++ gs) = true)
    (hsz0 : (DataW.weightsEach Tryz.prog (Tryz.f4.params.toList ++ Rows.syslParsesSpec.plain.varTypes Tryz.prog) (ds ++ gs)).all (· ≤ reachBytes) = true)
    (hL : laidMetH Tryz.prog laid8 W) (hsh : W.ShapedOpen Tryz.prog) :
    Calls Tryz.prog 4 args W fun e W' => ∃ v, e = .returned v ∧ Rows.syslParsesSpec.post enc Tryz.prog Tryz.f4 false true false false W args v W' := by
  have hval : ∀ (j : Nat) t v, Tryz.f4.params[j]? = some t → args[j]? = some v → Value.okWide Tryz.prog W .any base t v := hval0
  have hsz : (DataW.weightsEach Tryz.prog (Tryz.f4.params.toList ++ Rows.syslParsesSpec.plain.varTypes Tryz.prog) (ds ++ gs)).all (· ≤ reachBytes) = true := hsz0
  have hW' := hW
  obtain ⟨p, q, hA0, hV, rfl, hfz, hnd⟩ := hW
  have hA : DataW.TrodAll enc Tryz.prog W 0 (fun _ => true) true Tryz.f4.params.toList args.toList ds p := hA0
  rw [Tryz.params4] at hA hval hsz
  obtain ⟨v0, vs0, d0, ds0, p0, q0, hargs, rfl, rfl, h0, r0⟩ := trodAll_cons hA
  obtain ⟨rfl, rfl, rfl⟩ := trodAll_nil r0
  obtain rfl : args = #[v0] := by cases args; simp_all
  obtain ⟨rfl, rfl⟩ := trodVars_none hV
  obtain ⟨s, rfl, rfl, rfl, ws⟩ := open_string Tryz.underlying9 (hval 0 9 v0 rfl rfl) h0
  have hbulk : Rows.uptoBulkAll [DataW.lit (H := H) (.string s.data.toList)] ≤ 1048576 := of_decide_eq_true hk
  simp only [Rows.uptoBulkAll, Rows.uptoBulk, list_size] at hbulk
  clear hA0 hval0 hsz0
  simp only [List.append_nil] at hW'
  refine (walk s W (std_of_laid hL) (max_of_shape hsh) (pow_of_laid hL) (errs_of_laid hL) (by omega) (fun V hV => HR s V (by omega) hV)).mono fun r W' ⟨he, bel⟩ => ?_
  subst he
  exact ⟨_, rfl, _, _, _, [], _, [], hW', trodAll_mk1 (shut_bool Tryz.underlying4 _), (trodAll_cons_mk (shut_string Tryz.underlying9 ws) trodAll_mk0), rfl, bel.frame _, fun h => by cases h⟩

set_option maxRecDepth 100000 in
theorem lifted (HR : RefGiven) (os : Os) (started : os.Started) (H : Type) (enc : TypeId × Value → H) (F : Stop.Interp) :
    ReturnsInHanded {} Tryz.checked os 4 .any ((Rows.OpenSpec.upto Rows.syslParsesSpec).preRow enc Tryz.prog Tryz.f4 Rows.syslParsesUptoRow.domain false Rows.syslParsesUptoRow.laid) (((Rows.OpenSpec.upto Rows.syslParsesSpec).at F).post enc Tryz.prog Tryz.f4 false true false false) := by
  refine returnsInHanded_of_row (C := Tryz.checked) (s := Rows.OpenSpec.upto Rows.syslParsesSpec) own started (by kernel_rfl) Tryz.func4
    ⟨World.laidAll Tryz.prog os laid8, fun _ _ => 0, ⟨#[], #[.string ByteArray.empty], []⟩, World.laidAll_os _ _ _, World.shaped_of_ZipB (by kernel_rfl) (by kernel_rfl), rfl,
      (Input.okWide_of_okWideB (by kernel_rfl)).2,
      OpenSpec.preRow_of_cond (x := ([.lit (.string [])], [], [])) 4 (by kernel_rfl) (by kernel_rfl) (fun k hk => by cases hk; kernel_rfl) (by kernel_rfl) (met8 os _),
      by simp only [Assume.holds]; exact ⟨by simp, by simp, fun _ => Modest.zero, by simp, by simp⟩⟩ ?_
  intro W base args ds gs before hval hW _ hcond hsz hL hsh _
  exact contract HR H enc W base args ds gs before hval hW (hcond _ rfl) hsz hL hsh

theorem over (HR : RefGiven) : Rows.syslParsesUptoRow.holds Tryz.pinned (Rows.OpenSpec.upto Rows.syslParsesSpec) :=
  OpenClaim.holds_of_cond 4 Tryz.f4 rfl rfl rfl rfl rfl rfl rfl ⟨rfl, rfl, rfl, rfl, rfl⟩ rfl rfl rfl rfl rfl (by kernel_rfl) Tryz.func4 (by kernel_rfl)
    (of_decide_eq_true (by kernel_rfl)) (by unfold Func.isWrapper; first | (rw [if_pos (by decide +kernel)]; kernel_rfl) | (rw [if_neg (by decide +kernel)]; exact ⟨rfl, rfl⟩))
    (fun os started H enc _ F => by rw [OpenClaim.pre_eq_preRow]; exact lifted HR os started H enc F)

theorem given (HR : RefGiven) : Rows.SyslParsesUptoCardSaid :=
  Claim7.holds_tied_plain_at .later [] [.data, .data, .data, .data, .sentinel, .sentinel, .data, .pinned] true (true, "923427ab5af8d27af9b00e0fdb8139674fb9905b10de5a72e66ed4f02873bfee") true
    (over HR) (fun _ h => by cases h) (by kernel_rfl) (fun _ h => by cases h) syslParsesUpto_row_tie rfl ⟨rfl, rfl⟩ (by kernel_rfl) rfl
    (fun f fn hf hfn => by
      obtain rfl : f = 4 := Option.some.inj ((show Tryz.prog.funcNamed "tabulary/tabularylaw05.SyslParses" = some 4 by kernel_rfl).symm.trans hf) |>.symm
      obtain rfl : fn = Tryz.f4 := (Option.some.inj (Tryz.func4.symm.trans hfn)).symm
      exact ⟨by kernel_rfl, fun j t ht => by
        rw [Tryz.params4] at ht
        have hm : t ∈ [9] := by simpa using Array.mem_of_getElem? ht
        have hall : ([9].all fun u => !Tryz.prog.wantsStandIn u) = true := by kernel_rfl
        exact (show Tryz.prog.wantsStandIn t = false by simpa using List.all_eq_true.1 hall t hm)⟩)
    (by kernel_rfl)
theorem proved : Rows.SyslParsesUptoCardSaid := given fun s W hs hS => refParse_any s W (by omega) hS
end Go.Proofs.YtnaijahhogndjaaGreatDoor.syslParses
