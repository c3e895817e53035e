/- Parts of a text are its kind and parts, as the document reads them from the left; or it tells that bytes are missing, or too many. All memory that was there stays. Condition: the text is no longer than memory. -/
import Derived.Test.YtdfmaimeogcpdaaRRRRTold
namespace Go.Proofs.YtdfmaimeogcpdaaRRRR
open Go.ChangeShapes Go.WideShapes Go.ChangeAt Go.RowKit Go.Shelf
attribute [local go_sem] Oper.semAt_some

theorem info9 : (Try.prog.info? 9).map (fun i => (i.zero, i.size, i.bytes)) = some (some (.string ⟨#[]⟩), 1, 16) := by kernel_rfl

/-- What Parts answers. -/
def PartsAns (s : ByteArray) (w : World) (e : Ending) (w' : World) : Prop :=
  ∃ (A : Option Addr) (n cap : Nat) (ts : List ByteArray), e = .returned (.tuple #[.int .i64 (partsOf (nums s)).1, .slice A n cap, .int .i64 (partsOf (nums s)).2.2]) ∧ TextsAt w' A n ts ∧ ts.map nums = (partsOf (nums s)).2.1 ∧ n ≤ 65536 ∧ Below w.heap.size w w'

/-- What the variables of Parts hold when these parts have come. -/
def Kept (base Bp Br n₀ : Nat) (s5 : ByteArray) (w : World) (pre : List Told) (W : World) : Prop :=
  (∃ v, Boxed W Bp 22 v ∧ W.ownsRow base 9 1 v pre.length (pre.map fun x => Value.string x.1)) ∧ Boxed W Br 9 (.string (left s5 pre)) ∧ Below n₀ w W ∧ base ≤ W.heap.size

theorem Kept.loose {base Bp Br Bt n₀ : Nat} {s5 : ByteArray} {w : World} (hp : Bp ≠ Bt) (hr : Br ≠ Bt) (hb : Bt < base) (hn : n₀ ≤ Bt) (pre : List Told) (X Y : World) (h : Kept base Bp Br n₀ s5 w pre X) (hl : Loose base Bt X Y) : Kept base Bp Br n₀ s5 w pre Y := by
  obtain ⟨⟨v, hv, hrow⟩, hbr, hB, hsz⟩ := h
  refine ⟨⟨v, hl.same _ _ hp hv (.inr rfl), hrow.1, ?_⟩, hl.same _ _ hr hbr (.inr rfl), ⟨hl.os.trans hB.os, hl.tape.trans hB.tape, hl.output.trans hB.output, Nat.le_trans hB.size hl.size, fun k hk => ?_⟩, Nat.le_trans hsz hl.size⟩
  · rcases hrow.2 with h0 | ⟨g, cap, cur, e, hg, hh, rest⟩
    · exact .inl h0
    · exact .inr ⟨g, cap, cur, e, hg, hl.same _ _ (by omega) hh (.inr rfl), rest⟩
  · have hlt : k < X.heap.size := by have := hB.size; omega
    have hX := hB.block k hk
    rw [← hX]
    exact (hl.same k _ (by omega) (Array.getElem?_eq_getElem hlt) (.inl (by omega))).trans (Array.getElem?_eq_getElem hlt).symm

/-- A round: the part is appended, and what stands behind it is stored. -/
theorem Kept.step {base Bp Br Bt n₀ : Nat} {s5 : ByteArray} {w W w1 : World} {pre : List Told} {x : Told} {v v' : Value} {tmp : Obj} (hv : Boxed W Bp 22 v) (hrow : W.ownsRow base 9 1 v pre.length (pre.map fun x => Value.string x.1)) (hbr : Boxed W Br 9 (.string (left s5 pre)))
    (hB : Below n₀ w W) (hsz : base ≤ W.heap.size) (hg : (W.alloc tmp).grownBy w1 v.ownBlock) (hown : w1.ownsRow base 9 1 v' (pre.length + 1) ((pre.map fun x => Value.string x.1) ++ [.string x.1]))
    (hpb : Bp < base) (hrb : Br < base) (htb : Bt < base) (hpr : Bp ≠ Br) (hp : Bp ≠ Bt) (hr : Br ≠ Bt) (hnp : n₀ ≤ Bp) (hnr : n₀ ≤ Br) :
    Boxed w1 Bp 22 v ∧ Boxed (w1.setCell ⟨Bp, 0, none⟩ v') Br 9 (.string (left s5 pre)) ∧
      KeepsFrom base W ((w1.setCell ⟨Bp, 0, none⟩ v').setCell ⟨Br, 0, none⟩ (.string x.2)) ∧ Held Bt W ((w1.setCell ⟨Bp, 0, none⟩ v').setCell ⟨Br, 0, none⟩ (.string x.2)) ∧
      Kept base Bp Br n₀ s5 w (pre ++ [x]) ((w1.setCell ⟨Bp, 0, none⟩ v').setCell ⟨Br, 0, none⟩ (.string x.2)) := by
  have hlow : Below base W w1 := ((Below.refl base W).alloc hsz tmp).grown hg (by simp; omega) (fun k e => (hrow.lt k e).1)
  have b1 : Boxed w1 Bp 22 v := (hlow.block Bp hpb).trans hv
  have r1 : Boxed w1 Br 9 (.string (left s5 pre)) := (hlow.block Br hrb).trans hbr
  have r2 : Boxed (w1.setCell ⟨Bp, 0, none⟩ v') Br 9 (.string (left s5 pre)) := (Below.heap_setCell _ _ _ Br hpr.symm).trans r1
  have b3 : Boxed ((w1.setCell ⟨Bp, 0, none⟩ v').setCell ⟨Br, 0, none⟩ (.string x.2)) Bp 22 v' := (Below.heap_setCell _ _ _ Bp hpr).trans (b1.set v')
  have hB1 : Below n₀ w w1 := by
    refine hB.trans (hlow.mono ?_)
    omega
  refine ⟨b1, r2, ?_, ?_, ⟨⟨v', b3, ?_⟩, ?_, (hB1.setCell (p := ⟨Bp, 0, none⟩) hnp v').setCell (p := ⟨Br, 0, none⟩) hnr _, ?_⟩⟩
  · have hk : KeepsOthers W w1 := (KeepsOthers.alloc W tmp).trans (KeepsOthers.of_grownBy hg fun j _ ej hj => by
      rcases (hrow.alloc tmp).2 with ⟨rfl, _⟩ | ⟨g, cap, cur, rfl, _, hgb, _⟩
      · cases ej
      · cases ej
        rw [hgb] at hj
        cases hj
        rfl)
    exact ((hk.trans (KeepsOthers.setCell _ _ _)).trans (KeepsOthers.setCell _ _ _)).from _
  · exact (Below.heap_setCell _ _ _ Bt hr.symm).trans ((Below.heap_setCell _ _ _ Bt hp.symm).trans (hlow.block Bt htb))
  · have := ownsRow_setCell_below (ownsRow_setCell_below hown (a := ⟨Bp, 0, none⟩) hpb v') (a := ⟨Br, 0, none⟩) hrb (.string x.2)
    simpa using this
  · rw [left_snoc]; exact r2.set _
  · have h1 := (KeepsOthers.setCell w1 ⟨Bp, 0, none⟩ v').size
    have h2 := (KeepsOthers.setCell (w1.setCell ⟨Bp, 0, none⟩ v') ⟨Br, 0, none⟩ (.string x.2)).size
    have h3 := hlow.size
    omega

/-- A row of texts of the call's own, as a list. -/
theorem row_texts {W : World} {base : Nat} {v : Value} {ts : List ByteArray} {n : Nat} (h : W.ownsRow base 9 1 v n (ts.map Value.string)) : ∃ A cap, v = .slice A n cap ∧ TextsAt W A n ts := by
  have hl : ts.length = n := by have := h.1; simpa using this
  rcases h.2 with ⟨rfl, rfl⟩ | ⟨g, cap, cur, rfl, _, hh, _⟩
  · exact ⟨none, 0, rfl, hl, .inl rfl⟩
  · refine ⟨_, cap, rfl, hl, .inr ⟨g, 0, rfl, (Array.getElem?_eq_some_iff.1 hh).1, fun i hi => ?_⟩⟩
    rw [Nat.zero_add, h.cellAt i (by omega), List.getElem?_map, List.getElem?_eq_getElem (show i < ts.length by omega)]
    simp [List.getD, List.getElem?_eq_getElem (show i < ts.length by omega)]
theorem head_zero (l : List Int) (h : 0 < l.length) : l[0] = l.headD 0 := by
  cases l with
  | nil => simp at h
  | cons x l => rfl
theorem heads_map (xs : List Told) : heads xs = (xs.map Prod.fst).map nums := by simp [heads]

theorem parts_short (s : ByteArray) (w : World) (h : s.size < 5) :
    Calls Try.prog 9 #[.string s] w fun e w' => e = .returned (.tuple #[.int .i64 0, .slice none 0 0, .int .i64 2]) ∧ w' = w := by
  have hb : ((s.size : Nat) : Int) < 5 := by omega
  refine (callsIn_wide (n := 8)).1 ?_
  refine callsIn_of_wp_marks Try.func9 rfl trivial ?_ rfl
  simp only [Try.ntmps9, List.size_toArray, List.length_cons, List.length_nil, Nat.reduceAdd, Nat.reduceSub, Array.replicate_succ, Array.replicate_zero, List.push_toArray, List.append_toArray, List.nil_append, List.cons_append]
  gi_wp2
  exact ⟨_, results_tmp3 rfl _ _ _, rfl, rfl⟩

theorem nums_many (s : ByteArray) : val (nums (s.extract 1 5)) = many (nums s) := by unfold many; rw [nums_extract]
theorem many_lt (s : ByteArray) (h : 5 ≤ s.size) : many (nums s) < 4294967296 := by
  have := val_lt (nums (s.extract 1 5)) (nums_bytes _)
  rw [nums_many, nums_length, ByteArray.size_extract] at this
  exact Nat.lt_of_lt_of_le this (by
    have : min 5 s.size - 1 = 4 := by omega
    rw [this]
    decide)

theorem parts_much (s : ByteArray) (w : World) (hs : s.size ≤ 281474976710656) (h : 5 ≤ s.size) (M : Nat) (hM : many (nums s) = M) (hbig : 65536 < M) (hlt : M < 4294967296) :
    Calls Try.prog 9 #[.string s] w fun e w' => e = .returned (.tuple #[.int .i64 0, .slice none 0 0, .int .i64 3]) ∧ w' = w := by
  have hb : ¬ ((s.size : Nat) : Int) < 5 := by omega
  have h5 : (5 : Int) ≤ (s.size : Int) := by omega
  have hz : (s.extract 1 5).size ≤ 8 := by rw [ByteArray.size_extract]; omega
  have hv : val (nums (s.extract 1 5)) = M := by rw [nums_many, hM]
  have hcmp : (65536 : Int) < (M : Int) := by omega
  refine (callsIn_wide (n := 8)).1 ?_
  refine callsIn_of_wp_marks Try.func9 rfl trivial ?_ rfl
  simp only [Try.ntmps9, List.size_toArray, List.length_cons, List.length_nil, Nat.reduceAdd, Nat.reduceSub, Array.replicate_succ, Array.replicate_zero, List.push_toArray, List.append_toArray, List.nil_append, List.cons_append]
  gi_wp2_with fail
  refine ⟨trivial, (callsIn_wide.2 (value_any _ _ hz)).mono ?_⟩
  rintro e w' ⟨rfl, rfl⟩
  rw [hv]
  gi_wp2
  exact ⟨_, results_tmp3 rfl _ _ _, rfl, rfl⟩

set_option maxRecDepth 100000 in
set_option maxHeartbeats 4000000 in
theorem parts_read (s s5 : ByteArray) (w : World) (hs : s.size ≤ 281474976710656) (h : 5 ≤ s.size) (h55 : s.extract 5 s.size = s5) (M : Nat) (hM : many (nums s) = M) (hle : M ≤ 65536) :
    Calls Try.prog 9 #[.string s] w (PartsAns s w) := by
  obtain ⟨i0, hi, hz0, hz1, hz2⟩ := info_parts info9
  have hb : ¬ ((s.size : Nat) : Int) < 5 := by omega
  have h5 : (5 : Int) ≤ (s.size : Int) := by omega
  have hz : (s.extract 1 5).size ≤ 8 := by rw [ByteArray.size_extract]; omega
  have hv : val (nums (s.extract 1 5)) = M := by rw [nums_many, hM]
  have hcmp : ¬ (65536 : Int) < (M : Int) := by omega
  have hs5 : s5.size ≤ 281474976710656 := by rw [← h55, ByteArray.size_extract]; omega
  refine (callsIn_wide (n := 8)).1 ?_
  refine callsIn_of_wp_marks Try.func9 rfl trivial ?_ rfl
  simp only [Try.ntmps9, List.size_toArray, List.length_cons, List.length_nil, Nat.reduceAdd, Nat.reduceSub, Array.replicate_succ, Array.replicate_zero, List.push_toArray, List.append_toArray, List.nil_append, List.cons_append]
  gi_wp2_with fail
  refine ⟨trivial, (callsIn_wide.2 (value_any _ _ hz)).mono ?_⟩
  rintro e w' ⟨rfl, rfl⟩
  rw [hv]
  gi_wp2
  rename_i K hK
  have key : ∀ (Bp Br : Nat) (W1 : World), Boxed W1 Bp 22 (.slice none 0 0) → Boxed W1 Br 9 (.string s5) → Below w'.heap.size w' W1 → Bp ≠ Br → w'.heap.size ≤ Bp → w'.heap.size ≤ Br →
      K { tmps := #[.string s, undef, .int .i64 0, .slice none 0 0, .int .i64 0, .int .u64 M, .pointer (some ⟨Bp, 0, none⟩), .pointer (some ⟨Br, 0, none⟩), undef, undef, .string s, .int .i64 s.size, .bool false, .string s, .string (s.extract 1 5), .int .u64 M, .int .u64 M, .bool (decide ((65536 : Int) < M)), .string s,
        .string s5, undef, undef, undef, undef, undef, undef, undef, undef, undef, undef, undef, undef, undef, undef, undef, undef, undef, undef, undef, undef, undef, undef, undef, undef], defers := [] } W1 := by
    intro Bp Br W1 bP bR hB1 hne hnp hnr
    refine hK _ _ ?_
    have hcr := bR.cell
    gi_wp2_with fail
    refine ⟨trivial, (told_in 7 s5 M _).mono ?_⟩
    rintro e W2 ⟨rfl, hW2⟩
    have sz2 : W2.heap.size = W1.heap.size + 2 := by rw [hW2]; simp
    have bT : Boxed W2 W1.heap.size 9 (.string s5) := by rw [hW2]; exact (Boxed.new W1 9 (.string s5)).alloc _
    have bM : Boxed W2 (W1.heap.size + 1) 3 (.int .i64 M) := by
      have := Boxed.new (W1.alloc (.cells #[.string s5] 9)) 3 (.int .i64 M)
      rw [World.size_alloc] at this
      rw [hW2]; exact this
    have bP2 : Boxed W2 Bp 22 (.slice none 0 0) := by rw [hW2]; exact (bP.alloc _).alloc _
    have bR2 : Boxed W2 Br 9 (.string s5) := by rw [hW2]; exact (bR.alloc _).alloc _
    have hB2 : Below w'.heap.size w' W2 := by
      rw [hW2]
      have := hB1.size
      exact (hB1.alloc (by omega) _).alloc (by simp; omega) _
    have ltp := bP.lt
    have ltr := bR.lt
    have hB1s := hB1.size
    clear hW2 bP bR hcr hB1
    gi_wp2_with fail
    refine wpIn_range_state rfl (by omega) (gf := 18) (lb := #[.pointer (some ⟨W1.heap.size + 1, 0, none⟩), .pointer (some ⟨W1.heap.size, 0, none⟩)]) rfl trivial (enters_of Try.func18 (by kernel_rfl) rfl)
      (told1_in 7 (by omega) W1.heap.size (W1.heap.size + 1) M s5 hle hs5 W2 bT bM) (by omega) (fun h k => Eq.trans k h) (fun W l o' hl => World.putObj_heap_other (by omega)) (fun _ => rfl)
      (Kept W2.heap.size Bp Br w'.heap.size s5 w') (fun pre X Y => Kept.loose (by omega) (by omega) (by omega) (by omega) pre X Y) ⟨⟨_, bP2, World.ownsRow_nil _ _ _ _⟩, bR2, hB2, Nat.le_refl _⟩
      (fun x => { tmps := #[.string s, undef, .int .i64 0, .slice none 0 0, .int .i64 0, .int .u64 M, .pointer (some ⟨Bp, 0, none⟩), .pointer (some ⟨Br, 0, none⟩), .string x.1, .string x.2, .string s, .int .i64 s.size, .bool false, .string s, .string (s.extract 1 5), .int .u64 M, .int .u64 M, .bool (decide ((65536 : Int) < M)), .string s,
        .string s5, .string s5, .int .u64 M, .int .i64 M, .func (.func 18) #[] #[.pointer (some ⟨W1.heap.size + 1, 0, none⟩), .pointer (some ⟨W1.heap.size, 0, none⟩)], .string x.1, .string x.2, undef, undef, undef, undef, undef, undef, undef, undef, undef, undef, undef, undef, undef, undef, undef, undef, undef, undef], defers := [] }) ?assign ?body ?done
    case assign =>
      intro l x W K hK
      gi_wp2
      exact hK
    case body =>
      rintro l pre x W ⟨⟨v, hbv, hrow⟩, hbr, hB, hsz⟩ hlen
      have hc := hbv.cell
      gi_wp2_with (gi_at_builtin; refine wpListIn_append_own _ rfl _ _ 22 rfl W2.heap.size 9 i0 (.string ⟨#[]⟩) 1 16 Try.underlying22 hi hz0 hz1 hz2 rfl (by decide) _ _ _ rfl (hrow.alloc _) ⟨W.heap.size, 0, none⟩ 1 1 [.string x.1] rfl rfl (cell_one_new _ _ _) (by simp [Value.oneCell']) (by unfold maxLen; omega) (by omega) (by simp; omega) ?_; intro v' w1 hown' hgrow _; obtain ⟨g', cap', rfl⟩ := ownsRow_succ hown'; obtain ⟨hy1, hy2, hy3, hy4, hy5⟩ := Kept.step (x := x) (Bt := W1.heap.size) hbv hrow hbr hB hsz hgrow hown' (by omega) (by omega) (by omega) hne (by omega) (by omega) hnp hnr; have hc1 := hy1.cell; have hf1 := hy1.frozen; have hc2 := hy2.cell; have hf2 := hy2.frozen)
      exact ⟨hy3, hy4, hy5⟩
    case done =>
      rintro D xs W hD hall ⟨⟨v, hbv, hrow⟩, hbr, hB, hsz⟩ hKd
      have hmap : (xs.map fun x => Value.string x.1) = (xs.map Prod.fst).map Value.string := by simp
      rw [hmap] at hrow
      obtain ⟨A, cap, rfl, _⟩ := row_texts hrow
      have hlast : Below w'.heap.size w' (W.putObj D (.deferred none)) := hB.trans (belowK_b (w := w') (Nat.le_refl _) W D _ _ (by omega) hKd rfl rfl)
      have hfin : TextsAt (W.putObj D (.deferred none)) A xs.length (xs.map Prod.fst) := by
        obtain ⟨A', cap', e, ht⟩ := row_texts (ownsRow_putObj hrow (.deferred none) hKd rfl)
        cases e
        exact ht
      have hp5 : (nums s).drop 5 = nums s5 := by
        rw [← h55, nums_extract, List.take_of_length_le (by rw [List.length_drop, nums_length]; exact Nat.le_refl _)]
      have hlen : xs.length ≤ M := by
        have := parse_parts M (nums s5)
        rw [← hall.1, heads_length] at this
        exact this
      have hans : partsOf (nums s) = if xs.length < M then (0, [], 2) else if (left s5 xs).size ≠ 0 then (0, [], 3) else ((nums s).headD 0, heads xs, 0) := by
        unfold partsOf
        rw [if_neg (by rw [nums_length]; omega), hM, if_neg (by omega), hp5, ← hall.1, ← hall.2, heads_length]
        have : (nums (left s5 xs) ≠ []) ↔ (left s5 xs).size ≠ 0 := by rw [← nums_length]; simp
        simp only [this]
      have HA := Lib.hid hans
      have HF := Lib.hid hfin
      have hc := hbv.cell
      have hcr := hbr.cell
      clear hans hfin hall hrow hbv hbr hmap
      generalize left s5 xs = L at HA hcr
      by_cases hlt : xs.length < M
      · have hlt2 : (xs.length : Int) < (M : Int) := by omega
        gi_wp2
        refine ⟨by simp, .inl ⟨_, _, rfl, run_takeDeferred hKd, ?_⟩⟩
        refine ⟨_, results_tmp3 rfl _ _ _, none, 0, 0, [], ?_, ⟨rfl, .inl rfl⟩, ?_, by omega, hlast⟩
        · rw [HA.out, if_pos hlt]; rfl
        · rw [HA.out, if_pos hlt]; rfl
      · have hlt2 : ¬ (xs.length : Int) < (M : Int) := by omega
        by_cases hL : L.size = 0
        · obtain rfl : L = ⟨#[]⟩ := ByteArray.ext (Array.eq_empty_of_size_eq_zero hL)
          have h00 : (0 : Int) < (s.size : Int) := by omega
          have h01 : 0 < s.size := by omega
          have hbyte : ((s[0]'h01).toNat : Int) = (nums s).headD 0 := by
            rw [getElem_nums s 0 h01]
            exact head_zero _ _
          have h255 := (s[0]'h01).toNat_lt
          have HB := Lib.hid hbyte
          clear hbyte
          gi_wp2
          gi_region
          all_goals gi_wp2
          all_goals refine ⟨by simp, .inl ⟨_, _, rfl, run_takeDeferred (w := W.drew) hKd, ?_⟩⟩
          all_goals refine ⟨_, results_tmp3 rfl _ _ _, A, xs.length, cap, xs.map Prod.fst, ?_, HF.out, ?_, by omega, ⟨hlast.os, hlast.tape, hlast.output, hlast.size, hlast.block⟩⟩
          all_goals rw [HA.out, if_neg hlt, if_neg (by simpa using hL)]
          · rw [← HB.out]
            rfl
          · exact (heads_map xs).symm
        · have hne2 : L.toList.isEmpty = false := by
            rw [ByteArray.toList_eq, List.isEmpty_eq_false_iff]
            exact fun e => hL (by show L.data.size = 0; rw [← Array.length_toList, e]; rfl)
          gi_wp2
          refine ⟨by simp, .inl ⟨_, _, rfl, run_takeDeferred hKd, ?_⟩⟩
          refine ⟨_, results_tmp3 rfl _ _ _, none, 0, 0, [], ?_, ⟨rfl, .inl rfl⟩, ?_, by omega, hlast⟩
          · rw [HA.out, if_neg hlt, if_pos hL]; rfl
          · rw [HA.out, if_neg hlt, if_pos hL]; rfl
  gi_region
  · have b1 := (Boxed.new w' 22 (.slice none 0 0)).alloc (.cells #[.string s5] 9)
    have b2 := Boxed.new (w'.alloc (.cells #[.slice none 0 0] 22)) 9 (.string s5)
    rw [World.size_alloc] at b2
    exact key w'.heap.size (w'.heap.size + 1) _ b1 b2 (((Below.refl _ w').alloc (Nat.le_refl _) _).alloc (by simp) _).drew (by omega) (by omega) (by omega)
  · have b1 := (Boxed.new w' 9 (.string s5)).alloc (.cells #[.slice none 0 0] 22)
    have b2 := Boxed.new (w'.alloc (.cells #[.string s5] 9)) 22 (.slice none 0 0)
    rw [World.size_alloc] at b2
    exact key (w'.heap.size + 1) w'.heap.size _ b2 b1 (((Below.refl _ w').alloc (Nat.le_refl _) _).alloc (by simp) _).drew (by omega) (by omega) (by omega)

/-- Parts of any text. -/
theorem parts_any (s : ByteArray) (w : World) (hs : s.size ≤ 281474976710656) : Calls Try.prog 9 #[.string s] w (PartsAns s w) := by
  by_cases h5 : s.size < 5
  · have e : partsOf (nums s) = (0, [], 2) := by unfold partsOf; rw [if_pos (by rw [nums_length]; exact h5)]
    refine (parts_short s w h5).mono ?_
    rintro en w' ⟨rfl, rfl⟩
    exact ⟨none, 0, 0, [], by rw [e], ⟨rfl, .inl rfl⟩, by rw [e]; rfl, by omega, Below.refl _ _⟩
  · by_cases hb : 65536 < many (nums s)
    · have e : partsOf (nums s) = (0, [], 3) := by unfold partsOf; rw [if_neg (by rw [nums_length]; exact h5), if_pos hb]
      refine (parts_much s w hs (by omega) _ rfl hb (many_lt s (by omega))).mono ?_
      rintro en w' ⟨rfl, rfl⟩
      exact ⟨none, 0, 0, [], by rw [e], ⟨rfl, .inl rfl⟩, by rw [e]; rfl, by omega, Below.refl _ _⟩
    · exact parts_read s _ w hs (by omega) rfl _ rfl (by omega)
end Go.Proofs.YtdfmaimeogcpdaaRRRR
