/-
  SyslBack returns true for every event and every text: what is printed is parsed as it was; what is parsed is right, and printed anew it is parsed as that.
  Conditions: the one of the given statement SyslBackUptoCardSaid (what is read holds at most 1048576 values and letters together); the listed variables stand as the program's text lays them (the card ties them).
-/
import Derived.Test.YtnaijahhogndjaaGreatDoorBG46
import Derived.Test.YtnaijahhogndjaaGreatDoorBG12
import Derived.Test.YtnaijahhogndjaaGreatDoorBG47
import Derived.Deep.DeepHandedRow
import Derived.Stop.LaidErr
namespace Go.Proofs.YtnaijahhogndjaaGreatDoor.syslBack
open Go.ChangeShapes Go.WideShapes Go.ChangeAt Go.RowKit Go.Joins
open Go.ChangeMaps (open_string shut_string)

theorem tPow : (Tryz.prog.globals[3]?).map (·.type) = some 174 := by kernel_rfl
theorem cells98 : Tryz.prog.cellsOf 98 = 1 := by kernel_rfl
theorem cells174 : Tryz.prog.cellsOf 174 = 20 := by kernel_rfl
theorem pow_datum : (Rows.laid_internal_strconv_uint64pow10 : DataW Unit) = Lib.tabData .u64 Lib.pow10Tab := by kernel_rfl
theorem pow_of_is {W : World} (h : Lib.TabIs Tryz.prog W "internal/strconv.uint64pow10" .u64 Lib.pow10Tab) : Cal.Pow W := by
  refine ⟨?_, h⟩
  have h0 := h.cell Cal.gPow 0 (by rw [Lib.pow10Tab_length]; omega)
  by_cases hs : 3 < W.heap.size
  · exact hs
  · rw [World.cell?] at h0
    have : W.heap[3]? = none := Array.getElem?_eq_none (by omega)
    simp [this] at h0
theorem pow_of_laid {W : World} (h : laidMetH Tryz.prog laid8 W) : Cal.Pow W := by
  have h6 := laidMet.tail (laidMet.tail (plain8 h))
  rw [pow_datum] at h6
  exact pow_of_is (Lib.tabIs_of_head Cal.gPow tPow Tryz.underlying174 Tryz.underlying98 cells98 cells174 h6)
theorem cells206 : Tryz.prog.cellsOf 206 = 1 := by kernel_rfl
theorem gRange : Tryz.prog.globalNamed "strconv.ErrRange" = some 6 := by kernel_rfl
theorem gSyntax : Tryz.prog.globalNamed "strconv.ErrSyntax" = some 5 := by kernel_rfl
theorem tRange : (Tryz.prog.globals[6]?).map (·.type) = some 116 := by kernel_rfl
theorem tSyntax : (Tryz.prog.globals[5]?).map (·.type) = some 116 := by kernel_rfl
theorem star : "*" ++ "errors.errorString" = "*errors.errorString" := by decide
theorem row204 (u : TypeId) (h : Tryz.prog.typeName? 3 u = some "*errors.errorString") : u = 204 :=
  typeName_ptr_named (nm := "errors.errorString") (by rw [star]; kernel_rfl) (by kernel_rfl) (by decide) u (by rw [star]; exact h)
theorem errs_of_laid {W : World} (h0 : laidMetH Tryz.prog laid8 W) : Errs W := by
  have h4 := laidMet.tail (laidMet.tail (laidMet.tail (laidMet.tail (plain8 h0))))
  obtain ⟨a0, _, hv0, _⟩ := laid_sentinel h4 gRange tRange Tryz.underlying116 row204 Tryz.underlying204 Tryz.underlying206 rfl rfl Tryz.underlying9 cells206 cells9
  obtain ⟨a1, _, hv1, _⟩ := laid_sentinel (laidMet.tail h4) gSyntax tSyntax Tryz.underlying116 row204 Tryz.underlying204 Tryz.underlying206 rfl rfl Tryz.underlying9 cells206 cells9
  have c6 : W.cell? ⟨6, 0, none⟩ = some (.iface 204 (.pointer (some a0))) := by simpa using World.var?_cell gRange hv0 0
  have c5 : W.cell? ⟨5, 0, none⟩ = some (.iface 204 (.pointer (some a1))) := by simpa using World.var?_cell gSyntax hv1 0
  exact ⟨World.block_lt_of_cell? W _ c6, ⟨_, _, c5⟩, _, _, c6⟩
set_option maxRecDepth 100000 in
theorem contract (H : Type) (enc : TypeId × Value → H) (W : World) (base : Nat) (args : Array Value) (ds gs : List (DataW H)) (before : List MemPlace)
    (hval0 : ∀ (j : Nat) t v, Tryz.f5.params[j]? = some t → args[j]? = some v → Value.okWide Tryz.prog W .any base t v)
    (hW : DataW.Whole enc Tryz.prog Tryz.f5.params.toList Rows.syslBackSpec.vars false W args.toList ds gs before) (hk : Rows.uptoSmall H (ds ++ gs) = true)
    (hsz0 : (DataW.weightsEach Tryz.prog (Tryz.f5.params.toList ++ Rows.syslBackSpec.plain.varTypes Tryz.prog) (ds ++ gs)).all (· ≤ reachBytes) = true)
    (hL : laidMetH Tryz.prog laid8 W) (hsh : W.ShapedOpen Tryz.prog) :
    Calls Tryz.prog 5 args W fun e W' => ∃ v, e = .returned v ∧ Rows.syslBackSpec.post enc Tryz.prog Tryz.f5 false true false false W args v W' := by
  have hval : ∀ (j : Nat) t v, Tryz.f5.params[j]? = some t → args[j]? = some v → Value.okWide Tryz.prog W .any base t v := hval0
  have hsz : (DataW.weightsEach Tryz.prog (Tryz.f5.params.toList ++ Rows.syslBackSpec.plain.varTypes Tryz.prog) (ds ++ gs)).all (· ≤ reachBytes) = true := hsz0
  have hW' := hW
  obtain ⟨p, q, hA0, hV, rfl, hfz, hnd⟩ := hW
  have hA : DataW.TrodAll enc Tryz.prog W 0 (fun _ => true) true Tryz.f5.params.toList args.toList ds p := hA0
  rw [Tryz.params5] at hA hval hsz
  obtain ⟨v0, vs0, d0, ds0, p0, q0, hargs, rfl, rfl, h0, r0⟩ := trodAll_cons hA
  obtain ⟨v1, vs1, d1, ds1, p1, q1, rfl, rfl, rfl, h1, r1⟩ := trodAll_cons r0
  obtain ⟨rfl, rfl, rfl⟩ := trodAll_nil r1
  obtain rfl : args = #[v0, v1] := by cases args; simp_all
  obtain ⟨rfl, rfl⟩ := trodVars_none hV
  have k0 := h0
  have lt0 : ∀ x ∈ p0, x.block < W.heap.size := by obtain ⟨m, hm⟩ := k0; exact DataW.trod_lt m _ _ _ hm
  obtain ⟨e, va, rfl, _, ⟨le, te⟩, hin0⟩ := open_evB (hval 0 24 v0 rfl rfl) h0
  obtain ⟨s, rfl, rfl, rfl, ws⟩ := open_string Tryz.underlying9 (hval 1 9 v1 rfl rfl) h1
  have hI0 := hin0 (fun n hn => by
    have hx := List.all_eq_true.1 hsz n (DataW.weights_mem_each (j := 0) (t := 24) rfl rfl _ hn)
    simpa using hx)
  have hbulk : Rows.uptoBulkAll [d0, DataW.lit (H := H) (.string s.data.toList)] ≤ 1048576 := of_decide_eq_true hk
  simp only [Rows.uptoBulkAll, Rows.uptoBulk, list_size] at hbulk
  clear hA0 hval0 hsz0
  simp only [List.append_nil] at hW'
  refine (walk e va s W (std_of_laid hL) (max_of_shape hsh) (pow_of_laid hL) (errs_of_laid hL) hI0 (by omega) (by omega) (by omega)).mono fun r W' ⟨he, bel⟩ => ?_
  subst he
  exact ⟨_, rfl, _, _, _, [], _, [], hW', trodAll_mk1 (shut_bool Tryz.underlying4 _), (trodAll_cons_mk (Below.trod laidOut (by kernel_rfl) (of_decide_eq_true (by kernel_rfl)) k0 bel lt0) (trodAll_cons_mk (shut_string Tryz.underlying9 ws) trodAll_mk0)), rfl, bel.frame _, fun h => by cases h⟩

set_option maxRecDepth 100000 in
theorem lifted (os : Os) (started : os.Started) (H : Type) (enc : TypeId × Value → H) (F : Stop.Interp) :
    ReturnsInHanded {} Tryz.checked os 5 .any ((Rows.OpenSpec.upto Rows.syslBackSpec).preRow enc Tryz.prog Tryz.f5 Rows.syslBackUptoRow.domain false Rows.syslBackUptoRow.laid) (((Rows.OpenSpec.upto Rows.syslBackSpec).at F).post enc Tryz.prog Tryz.f5 false true false false) := by
  refine returnsInHanded_of_row (C := Tryz.checked) (s := Rows.OpenSpec.upto Rows.syslBackSpec) own started (by kernel_rfl) Tryz.func5
    ⟨World.laidAll Tryz.prog os laid8, fun _ _ => 0, ⟨#[], #[.agg #[.int .i64 0, .int .i64 0, .bool false, .int .i64 0, .string ByteArray.empty, .string ByteArray.empty, .string ByteArray.empty, .string ByteArray.empty, .slice none 0 0, .string ByteArray.empty], .string ByteArray.empty], []⟩, World.laidAll_os _ _ _, World.shaped_of_ZipB (by kernel_rfl) (by kernel_rfl), rfl,
      (Input.okWide_of_okWideB (by kernel_rfl)).2,
      OpenSpec.preRow_of_cond (x := ([.agg [.lit (.int .i64 0), .lit (.int .i64 0), .lit (.bool false), .lit (.int .i64 0), .lit (.string []), .lit (.string []), .lit (.string []), .lit (.string []), .nil, .lit (.string [])], .lit (.string [])], [], [])) 5 (by kernel_rfl) (by kernel_rfl) (fun k hk => by cases hk; kernel_rfl) (by kernel_rfl) (met8 os _),
      by simp only [Assume.holds]; exact ⟨by simp, by simp, fun _ => Modest.zero, by simp, by simp⟩⟩ ?_
  intro W base args ds gs before hval hW _ hcond hsz hL hsh _
  exact contract H enc W base args ds gs before hval hW (hcond _ rfl) hsz hL hsh

theorem over : Rows.syslBackUptoRow.holds Tryz.pinned (Rows.OpenSpec.upto Rows.syslBackSpec) :=
  OpenClaim.holds_of_cond 5 Tryz.f5 rfl rfl rfl rfl rfl rfl rfl ⟨rfl, rfl, rfl, rfl, rfl⟩ rfl rfl rfl rfl rfl (by kernel_rfl) Tryz.func5 (by kernel_rfl)
    (of_decide_eq_true (by kernel_rfl)) (by unfold Func.isWrapper; first | (rw [if_pos (by decide +kernel)]; kernel_rfl) | (rw [if_neg (by decide +kernel)]; exact ⟨rfl, rfl⟩))
    (fun os started H enc _ F => by rw [OpenClaim.pre_eq_preRow]; exact lifted os started H enc F)

theorem proved : Rows.SyslBackUptoCardSaid :=
  Claim7.holds_tied_plain_at .later [] [.data, .data, .data, .data, .sentinel, .sentinel, .data, .pinned] true (true, "923427ab5af8d27af9b00e0fdb8139674fb9905b10de5a72e66ed4f02873bfee") true
    over (fun _ h => by cases h) (by kernel_rfl) (fun _ h => by cases h) syslBackUpto_row_tie rfl ⟨rfl, rfl⟩ (by kernel_rfl) rfl
    (fun f fn hf hfn => by
      obtain rfl : f = 5 := Option.some.inj ((show Tryz.prog.funcNamed "tabulary/tabularylaw05.SyslBack" = some 5 by kernel_rfl).symm.trans hf) |>.symm
      obtain rfl : fn = Tryz.f5 := (Option.some.inj (Tryz.func5.symm.trans hfn)).symm
      exact ⟨by kernel_rfl, fun j t ht => by
        rw [Tryz.params5] at ht
        have hm : t ∈ [24, 9] := by simpa using Array.mem_of_getElem? ht
        have hall : ([24, 9].all fun u => !Tryz.prog.wantsStandIn u) = true := by kernel_rfl
        exact (show Tryz.prog.wantsStandIn t = false by simpa using List.all_eq_true.1 hall t hm)⟩)
    (by kernel_rfl)
#print axioms proved
end Go.Proofs.YtnaijahhogndjaaGreatDoor.syslBack
