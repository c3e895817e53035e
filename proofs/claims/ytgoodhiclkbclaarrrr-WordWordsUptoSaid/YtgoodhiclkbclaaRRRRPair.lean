/-
  WordWords returns true for every two rows of words that are of bulk at most 1048576 together: words' bytes are four each, and words one behind the other have their bytes one behind the other.
  Condition: the one of the given statement WordWordsUptoSaid (what is read holds at most 1048576 values).
-/
import Derived.Test.YtgoodhiclkbclaaRRRRBytes
import Derived.OpenShut
import Derived.ShutString
import Derived.JoinedCond
import Derived.ChangeOld
import Derived.Below
import Derived.Laws.AppendOwnNone
import Derived.Laws.OwnMore
namespace Go.Proofs.YtgoodhiclkbclaaRRRR.wordWords
open Go.ChangeShapes Go.WideShapes Go.ChangeAt Go.RowKit
open Go.ChangeMaps (open_string shut_string)

theorem info22 : (Try.prog.info? 22).map (fun i => (i.zero, i.size, i.bytes)) = some (some (.int .u32 0), 1, 4) := by kernel_rfl

/-- An append whose guard says yes, by what its run comes to. -/
theorem wpList_append_eq {P : Program} {w : World} {ops : Array Oper} {rest : List Oper} {o : Oper} {a : Act} {Q : Exit → Act → World → Prop} (hw : Region.wanted o (yielded ops a.tmps) = true) (s x : Operand) (t : TypeId)
    (ho : o.op = .call { callee := .builtin .append, args := #[s, x], argTypes := #[t, t] }) (v y v' : Value) (w' : World) (hs : a.eval s = v) (hx : a.eval x = y)
    (hr : (Builtin.append_ #[t, t] o.type #[v, y]).run P w = .ok v' w') (h : wpList P ops Q rest (a.put o.dst v') w') : wpList P ops Q (o :: rest) a w := by
  refine BigFrame.wpList_want hw fun K hK => ?_
  unfold Oper.wp execOp
  simp only [ho, resolve, invoke, builtin, Sem.run_bind, Sem.run_pure, Result.andThen_ok, List.map_toArray, List.map_cons, List.map_nil, hs, hx, hr]
  exact hK _ _ h

theorem map_at {zs : List Int} {n j : Nat} {u : Value} (hl : zs.length = n) (h : (zs.map (Value.int .u32))[j]? = some u) : j < n ∧ u = .int .u32 (zs.getD j 0) := by
  have hj : j < zs.length := by
    rcases Nat.lt_or_ge j zs.length with k | k
    · exact k
    · rw [List.getElem?_eq_none (by simpa using k)] at h; cases h
  refine ⟨by omega, ?_⟩
  rw [List.getElem?_map, List.getElem?_eq_getElem hj] at h
  simp [List.getD, List.getElem?_eq_getElem hj] at h ⊢
  exact h.symm

/-- A row of words appended to a row of the call's own. -/
theorem append_row (w : World) (base : Nat) (v : Value) (n : Nat) (xs : List Value) (hown : w.ownsRow base 22 1 v n xs) (A : Option Addr) (m c : Nat) (zs : List Int) (hr : RowAt w A m zs) (hA : A = none → m = 0 ∧ c = 0)
    (hn : n + m ≤ 1048576) (hbase : base ≤ w.heap.size) :
    ∃ v' w', (Builtin.append_ #[26, 26] 26 #[v, .slice A m c]).run Try.prog w = .ok v' w' ∧ w'.ownsRow base 22 1 v' (n + m) (xs ++ zs.map (Value.int .u32)) ∧ w.grownBy w' v.ownBlock := by
  obtain ⟨i0, hi, hz0, hz1, hz2⟩ := info_parts info22
  rcases A with _ | ad
  · obtain ⟨rfl, rfl⟩ := hA rfl
    have hz : zs = [] := List.eq_nil_of_length_eq_zero hr.1
    subst hz
    exact ⟨v, w, run_append_owned_none (P := Try.prog) (w := w) base 26 26 22 i0 1 Try.underlying26 hi v n xs hown, by simpa using hown, World.grownBy.refl w _⟩
  · obtain ⟨v', w', h1, h2, h3, _⟩ := run_append_own (P := Try.prog) w base 26 26 22 i0 (.int .u32 0) 1 4 Try.underlying26 hi hz0 hz1 hz2 rfl (by decide) v n xs hown ad m c (zs.map (Value.int .u32)) (by rw [List.length_map, hr.1]; omega)
      (fun j u hu => by
        obtain ⟨hj, rfl⟩ := map_at hr.1 hu
        rcases hr.2.2 with h0 | ⟨b, off, e, _, hc⟩
        · omega
        · cases e
          have hadd : (⟨b, off, none⟩ : Addr).add j = ⟨b, off + j, none⟩ := by unfold Addr.add; split <;> simp_all
          rw [hadd]
          exact hc j hj)
      (fun u hu => by simp at hu; obtain ⟨z, _, rfl⟩ := hu; rfl) (by unfold maxLen; omega) (by omega) hbase
    exact ⟨v', w', h1, h2, h3⟩

theorem own_row {w : World} {base : Nat} {v : Value} {n : Nat} {zs : List Int} (h : w.ownsRow base 22 1 v n (zs.map (Value.int .u32))) (hb : ∀ z ∈ zs, 0 ≤ z ∧ z < 4294967296) : ∃ A c, v = .slice A n c ∧ RowAt w A n zs := by
  have hl : zs.length = n := by have := h.1; simpa using this
  rcases h.2 with ⟨rfl, rfl⟩ | ⟨g, cap, cur, rfl, _, hh, _⟩
  · exact ⟨none, 0, rfl, hl, hb, .inl rfl⟩
  · refine ⟨_, cap, rfl, hl, hb, .inr ⟨g, 0, rfl, (Array.getElem?_eq_some_iff.1 hh).1, fun i hi => ?_⟩⟩
    rw [Nat.zero_add, h.cellAt i (by omega), List.getElem?_map, List.getElem?_eq_getElem (show i < zs.length by omega)]
    simp [List.getD, List.getElem?_eq_getElem (show i < zs.length by omega)]

theorem text_append (a b : List Int) : ((strOfNums (fours (a ++ b))).toList == (strOfNums (fours a) ++ strOfNums (fours b)).toList) = true := by
  rw [beq_iff_eq, ByteArray.toList_eq, ByteArray.toList_eq, ByteArray.data_append, Array.toList_append, strOfNums_data, strOfNums_data, strOfNums_data, fours_append, List.map_append]

set_option maxHeartbeats 800000 in
theorem walk (A : Option Addr) (n cap : Nat) (zs : List Int) (A' : Option Addr) (n' cap' : Nat) (zt : List Int) (w : World) (hr : RowAt w A n zs) (hr' : RowAt w A' n' zt)
    (hA : A = none → n = 0 ∧ cap = 0) (hA' : A' = none → n' = 0 ∧ cap' = 0) (hn : n + n' ≤ 1048576) :
    Calls Try.prog 4 #[.slice A n cap, .slice A' n' cap'] w fun e w' => e = .returned (.bool true) ∧ Below w.heap.size w w' := by
  go_enter Try.func4, Try.ntmps4
  go_wp2_with fail
  refine (shown_any _).mono ?_
  rintro e w1 ⟨rfl, B1⟩
  have r1 := hr.below B1
  have s1 := hr'.below B1
  clear hr hr'
  go_wp2_with fail
  refine (bytes_any A n cap zs _ r1 (by omega)).mono ?_
  rintro e w2 ⟨rfl, hb2⟩
  have B2 : Below w.heap.size w w2 := B1.trans (hb2.mono B1.size)
  have r2 := r1.below hb2
  have s2 := s1.below hb2
  clear r1 s1 hb2
  go_wp2_with fail
  refine (bytes_any A' n' cap' zt _ s2 (by omega)).mono ?_
  rintro e w3 ⟨rfl, hb3⟩
  have B3 : Below w.heap.size w w3 := B2.trans (hb3.mono B2.size)
  have r3 := r2.below hb3
  have s3 := s2.below hb3
  clear r2 s2 hb3
  obtain ⟨v4, w4, run4, own4, grow4⟩ := append_row (w3.alloc (.cells #[] 22)) w3.heap.size _ 0 [] (World.ownsRow_lit w3 #[] 0 (Nat.le_refl _) (by unfold maxLen; omega) rfl) A n cap zs (r3.below ((Below.refl _ _).alloc (Nat.le_refl _) _)) hA (by omega) (by simp)
  have B4 : Below w3.heap.size w3 w4 := ((Below.refl _ _).alloc (Nat.le_refl _) _).grown grow4 (by simp) (fun k hk => by cases hk; exact Nat.le_refl _)
  have lt4 := own4.lt
  rw [Nat.zero_add, List.nil_append] at own4
  obtain ⟨v5, w5, run5, own5, grow5⟩ := append_row w4 w3.heap.size v4 n _ own4 A' n' cap' zt (s3.below B4) hA' (by omega) B4.size
  have B5 : Below w3.heap.size w3 w5 := B4.grown grow5 B4.size (fun k hk => (lt4 k hk).1)
  rw [← List.map_append] at own5
  obtain ⟨A5, c5, rfl, r5⟩ := own_row own5 (fun z hz => by rcases List.mem_append.1 hz with h | h; exact r3.2.1 z h; exact s3.2.1 z h)
  have hlen : (strOfNums (fours zs)).size = 4 * n := by rw [strOfNums_size, fours_length, r3.1]
  have hlen' : (strOfNums (fours zt)).size = 4 * n' := by rw [strOfNums_size, fours_length, s3.1]
  have htext := text_append zs zt
  clear lt4 own4 own5 grow4 grow5 r3 s3 B4
  have BW : Below w.heap.size w w5 := B3.trans (B5.mono B3.size)
  clear B5
  have R4 := Lib.hid run4
  have R5 := Lib.hid run5
  clear run4 run5 hA hA'
  go_wp2_with (first
    | (refine wpList_append_eq rfl (.tmp 23) (.tmp 24) 26 rfl _ _ _ _ rfl rfl R4.out ?_)
    | (refine wpList_append_eq rfl (.tmp 25) (.tmp 26) 26 rfl _ _ _ _ rfl rfl R5.out ?_)
    | (go_at_call 8; refine (bytes_any A5 (n + n') c5 (zs ++ zt) _ r5 (by omega)).mono ?_; rintro e w6 ⟨rfl, hb6⟩))
  go_ret
  exact ⟨rfl, BW.trans (hb6.mono BW.size)⟩

/-! ### The row -/
theorem own : ownKnob Try.prog.godebug = none := by kernel_rfl
theorem laidOut : laidOutB Try.prog = true := by kernel_rfl

theorem bulk_words {H : Type} (zs : List Int) : Rows.uptoBulkAll (lits (H := H) .u32 zs) = zs.length := by
  induction zs with
  | nil => rfl
  | cons z zs ih =>
    have e : lits (H := H) .u32 (z :: zs) = .lit (.int .u32 z) :: lits .u32 zs := rfl
    rw [e]
    simp only [Rows.uptoBulkAll, Rows.uptoBulk, ih, List.length_cons]
    omega

theorem open_words {H : Type} {enc : TypeId × Value → H} {W : World} {A : Option Addr} {len cap : Nat} {d : DataW H} {p : List MemPlace}
    (h : DataW.Trod enc Try.prog W 0 (fun _ => true) true 26 (.slice A len cap) d p) : ∃ zs, RowAt W A len zs ∧ (A = Option.none → len = 0 ∧ cap = 0) ∧ len ≤ Rows.uptoBulk d := by
  obtain ⟨fuel, hf⟩ := h
  rcases open_ints Try.underlying26 Try.underlying22 (by kernel_rfl) hf with ⟨hcs, hx⟩ | ⟨x, l, c, zs, hcs, _, hl, hm, hz, hx, hcell, hwz⟩
  · simp [Value.cells] at hcs
    obtain ⟨rfl, rfl, rfl⟩ := hcs
    exact ⟨[], ⟨rfl, by simp, .inl rfl⟩, fun _ => ⟨rfl, rfl⟩, by omega⟩
  · simp [Value.cells] at hcs
    obtain ⟨rfl, rfl, rfl⟩ := hcs
    have hz' : zs.length = cap := by simpa using hz
    have hd : d = .slice (lits .u32 (zs.take len)) (lits .u32 (zs.drop len)) := congrArg Prod.fst hx
    refine ⟨zs.take len, ⟨by rw [List.length_take]; omega, fun z hz => ?_, ?_⟩, (fun h => by cases h), ?_⟩
    · have := hwz z (List.mem_of_mem_take hz)
      simp only [Lit.wf, Bool.and_eq_true, decide_eq_true_eq] at this
      have h2 : z ≤ 4294967295 := this.2
      exact ⟨this.1, by omega⟩
    · rcases Nat.eq_zero_or_pos len with h0 | h0
      · exact .inl h0
      · obtain ⟨b, off, rfl, hc⟩ := ints_at hcell (by omega)
        refine .inr ⟨b, off, rfl, World.block_lt_of_cell? W _ (hc 0 (by omega)), fun i hi => ?_⟩
        rw [hc i (by omega)]
        simp [List.getD, hi]
    · rw [hd]
      simp only [Rows.uptoBulk, bulk_words, List.length_take]
      omega

theorem contract (H : Type) (enc : TypeId × Value → H) (W : World) (base : Nat) (args : Array Value) (ds gs : List (DataW H)) (before : List MemPlace)
    (hval : ∀ (j : Nat) t v, Try.f4.params[j]? = some t → args[j]? = some v → Value.okWide Try.prog W .any base t v)
    (hW : DataW.Whole enc Try.prog Try.f4.params.toList Rows.wordWordsSpec.vars false W args.toList ds gs before) (hk : Rows.uptoSmall H (ds ++ gs) = true) :
    Calls Try.prog 4 args W fun e W' => ∃ v, e = .returned v ∧ Rows.wordWordsSpec.post enc Try.prog Try.f4 false true false false W args v W' := by
  have hW' := hW
  obtain ⟨p, q, hA0, hV, rfl, hfz, hnd⟩ := hW
  have hA : DataW.TrodAll enc Try.prog W 0 (fun _ => true) true Try.f4.params.toList args.toList ds p := hA0
  rw [Try.params4] at hA hval
  obtain ⟨v0, vs0, d0, ds0, p0, q0, hargs, rfl, rfl, h0, r0⟩ := trodAll_cons hA
  obtain ⟨v1, vs1, d1, ds1, p1, q1, rfl, rfl, rfl, h1, r1⟩ := trodAll_cons r0
  obtain ⟨rfl, rfl, rfl⟩ := trodAll_nil r1
  obtain rfl : args = #[v0, v1] := by cases args; simp_all
  obtain ⟨rfl, rfl⟩ := trodVars_none hV
  have lt0 : ∀ x ∈ p0, x.block < W.heap.size := by obtain ⟨m, hm⟩ := h0; exact DataW.trod_lt m _ _ _ hm
  have lt1 : ∀ x ∈ p1, x.block < W.heap.size := by obtain ⟨m, hm⟩ := h1; exact DataW.trod_lt m _ _ _ hm
  obtain ⟨a0, len0, cap0, rfl⟩ := okWide_slice Try.underlying26 (hval 0 26 v0 rfl rfl)
  obtain ⟨a1, len1, cap1, rfl⟩ := okWide_slice Try.underlying26 (hval 1 26 v1 rfl rfl)
  obtain ⟨z0, w0, n0, b0⟩ := open_words h0
  obtain ⟨z1, w1, n1, b1⟩ := open_words h1
  have hb : Rows.uptoBulkAll [d0, d1] ≤ 1048576 := of_decide_eq_true hk
  simp only [Rows.uptoBulkAll] at hb
  clear hA0
  refine (walk a0 len0 cap0 z0 a1 len1 cap1 z1 W w0 w1 n0 n1 (by omega)).mono fun e W' ⟨he, bel⟩ => ?_
  subst he
  exact ⟨_, rfl, _, _, _, [], _, [], hW', trodAll_mk1 (shut_bool Try.underlying4 _), (trodAll_cons_mk (Below.trod laidOut (by kernel_rfl) (of_decide_eq_true (by kernel_rfl)) h0 bel lt0) (trodAll_cons_mk (Below.trod laidOut (by kernel_rfl) (of_decide_eq_true (by kernel_rfl)) h1 bel lt1) trodAll_mk0)), rfl, bel.frame _, fun h => by cases h⟩

set_option maxRecDepth 100000 in
theorem lifted (os : Os) (started : os.Started) (H : Type) (enc : TypeId × Value → H) (F : Stop.Interp) :
    ReturnsInHanded {} Try.checked os 4 .any ((Rows.OpenSpec.upto Rows.wordWordsSpec).pre6 enc Try.prog Try.f4 Rows.wordWordsUptoRow.domain false) (((Rows.OpenSpec.upto Rows.wordWordsSpec).at F).post enc Try.prog Try.f4 false true false false) := by
  refine returnsInHanded_of_cond (C := Try.checked) (s := Rows.OpenSpec.upto Rows.wordWordsSpec) (k := Rows.uptoSmall) rfl own started (by kernel_rfl) Try.func4
    (OpenSpec.witness (enc := enc) (C := Try.checked) (s := Rows.OpenSpec.upto Rows.wordWordsSpec) (k := Rows.uptoSmall) rfl false ⟨#[], #[.slice .none 0 0, .slice .none 0 0], []⟩ 8 (by kernel_rfl) (by kernel_rfl) (by kernel_rfl)
      (x := ([.nil, .nil], [], [])) (by kernel_rfl) rfl (by kernel_rfl)) ?_
  intro W base args ds gs before hval hW _ hk _
  exact contract H enc W base args ds gs before hval hW hk

theorem proved : Rows.WordWordsUptoSaid :=
  OpenClaim.holds_of_cond 4 Try.f4 rfl rfl rfl rfl rfl rfl rfl ⟨rfl, rfl, rfl, rfl, rfl⟩ rfl rfl rfl rfl rfl (by kernel_rfl) Try.func4 (by kernel_rfl)
    (of_decide_eq_true (by kernel_rfl)) (by unfold Func.isWrapper; first | (rw [if_pos (by decide +kernel)]; kernel_rfl) | (rw [if_neg (by decide +kernel)]; exact ⟨rfl, rfl⟩))
    (fun os started H enc _ F => lifted os started H enc F)
#print axioms proved
end Go.Proofs.YtgoodhiclkbclaaRRRR.wordWords
