/-
  TagBack returns true for every kind, every row of parts, every cut and every text more: a text of a kind and parts tells them again; no beginning of it is one, nor one with more behind.
  Conditions: none (every input).
-/
import Derived.Test.YtdfmaimeogcpdaaRRRROpen
import Derived.Test.YtdfmaimeogcpdaaRRRRParts
import Derived.Lib.SmallJoins
namespace Go.Proofs.YtdfmaimeogcpdaaRRRR.tagBack
open Go.ChangeShapes Go.WideShapes Go.ChangeAt Go.RowKit Go.Joins

theorem map_nums_inj {a b : List ByteArray} (h : a.map nums = b.map nums) : a = b := by
  induction a generalizing b with
  | nil => cases b with
    | nil => rfl
    | cons y b => cases h
  | cons x a ih =>
    cases b with
    | nil => cases h
    | cons y b =>
      simp only [List.map_cons, List.cons.injEq] at h
      rw [nums_inj h.1, ih h.2]

/-- What Parts answers of the text of a kind and parts, with more behind. -/
theorem parts_more (kd : Nat) (ss : List ByteArray) (more : ByteArray) (w : World) (hk : kd < 256) (hn : ss.length ≤ 65536) (hs : ∀ s ∈ ss, s.size ≤ 1048576) (hlim : (strOfNums (laid kd (ss.map nums)) ++ more).size ≤ 281474976710656) :
    Calls Try.prog 9 #[.string (strOfNums (laid kd (ss.map nums)) ++ more)] w fun e w' => ∃ A n cap, Below w.heap.size w w' ∧
      ((more.size = 0 ∧ e = .returned (.tuple #[.int .i64 kd, .slice A n cap, .int .i64 0]) ∧ TextsAt w' A n ss) ∨ (more.size ≠ 0 ∧ e = .returned (.tuple #[.int .i64 0, .slice A n cap, .int .i64 3]))) := by
  have hb : Bytes (laid kd (ss.map nums)) := laid_bytes _ _ (fun p hp => by
    obtain ⟨s, _, rfl⟩ := List.mem_map.1 hp
    exact nums_bytes s)
  have hX : nums (strOfNums (laid kd (ss.map nums)) ++ more) = laid kd (ss.map nums) ++ nums more := by rw [nums_append, nums_strOfNums _ hb]
  have hp := partsOf_laid kd (ss.map nums) (nums more) hk (by rw [List.length_map]; exact hn) (fun p hp => by
    obtain ⟨s, hs', rfl⟩ := List.mem_map.1 hp
    have := hs s hs'
    rw [nums_length]; omega)
  refine (parts_any _ w hlim).mono ?_
  rintro e w' ⟨A, n, cap, ts, rfl, hT, hts, _, hB⟩
  rw [hX, hp] at hts ⊢
  refine ⟨A, n, cap, hB, ?_⟩
  by_cases hm : more.size = 0
  · have : nums more = [] := List.eq_nil_of_length_eq_zero (by rw [nums_length]; exact hm)
    rw [if_pos this] at hts ⊢
    exact .inl ⟨hm, rfl, map_nums_inj hts ▸ hT⟩
  · have : ¬ nums more = [] := fun h => hm (by rw [← nums_length, h]; rfl)
    rw [if_neg this]
    exact .inr ⟨hm, rfl⟩
/-- What Parts answers of a beginning of it. -/
theorem parts_cut (kd : Nat) (ss : List ByteArray) (c : Nat) (w : World) (hn : ss.length ≤ 65536) (hs : ∀ s ∈ ss, s.size ≤ 1048576) (hc : c < (laid kd (ss.map nums)).length) (hlim : (strOfNums (laid kd (ss.map nums))).size ≤ 281474976710656) :
    Calls Try.prog 9 #[.string ((strOfNums (laid kd (ss.map nums))).extract 0 c)] w fun e w' => ∃ A n cap, e = .returned (.tuple #[.int .i64 0, .slice A n cap, .int .i64 2]) ∧ Below w.heap.size w w' := by
  have hb : Bytes (laid kd (ss.map nums)) := laid_bytes _ _ (fun p hp => by
    obtain ⟨s, _, rfl⟩ := List.mem_map.1 hp
    exact nums_bytes s)
  have hX : nums ((strOfNums (laid kd (ss.map nums))).extract 0 c) = (laid kd (ss.map nums)).take c := by rw [nums_extract, nums_strOfNums _ hb]; rfl
  have hp := partsOf_cut kd (ss.map nums) c (by rw [List.length_map]; exact hn) (fun p hp => by
    obtain ⟨s, hs', rfl⟩ := List.mem_map.1 hp
    have := hs s hs'
    rw [nums_length]; omega) hc
  refine (parts_any _ w (by rw [ByteArray.size_extract]; omega)).mono ?_
  rintro e w' ⟨A, n, cap, ts, rfl, _, _, _, hB⟩
  rw [hX, hp]
  exact ⟨A, n, cap, rfl, hB⟩

set_option maxRecDepth 100000 in
set_option maxHeartbeats 4000000 in
theorem walk (kind : Int) (A : Option Addr) (n cap : Nat) (cut : Int) (more : ByteArray) (ss : List ByteArray) (w : World) (hT : TextsAt w A n ss) (hn : n ≤ 8796093022207) (hs : ∀ s ∈ ss, s.size ≤ 140737488351232) (hmo : more.size ≤ 140737488351232) :
    Calls Try.prog 3 #[.agg #[.int .i64 kind, .slice A n cap, .int .i64 cut, .string more]] w fun e w' => e = .returned (.bool true) ∧ Below w.heap.size w w' := by
  go_enter Try.func3, Try.ntmps3
  go_wp2_with fail
  refine (shown_any _).mono ?_
  rintro e w1 ⟨rfl, b1⟩
  have B1 : Below w.heap.size w w1 := ((Below.refl _ _).alloc (Nat.le_refl _) _).trans (b1.mono (by simp))
  have hT1 := hT.below B1
  clear b1
  go_wp2_with fail
  refine (long_any A n cap ss _ hT1 (by omega) (fun s h => by have := hs s h; omega)).mono ?_
  rintro e w1' ⟨rfl, rfl⟩
  by_cases hbig : 5000 < wrap64 ((n : Int) + sizes ss)
  · clear hT hT1 hs
    generalize wrap64 ((n : Int) + sizes ss) = v at hbig
    go_wp2
    go_ret
    exact ⟨rfl, B1⟩
  by_cases href : refused kind n = 0
  · have hk : 0 ≤ kind ∧ kind ≤ 255 ∧ n ≤ 65536 := by
      unfold refused at href
      split at href
      · cases href
      · split at href
        · cases href
        · omega
    obtain ⟨kd, rfl⟩ := Int.eq_ofNat_of_zero_le hk.1
    have hl := sizes_le ss _ hs
    rw [hT.1] at hl
    have hle : n * 140737488351232 ≤ 65536 * 140737488351232 := Nat.mul_le_mul_right _ hk.2.2
    rw [wrap64_in _ (by omega) (by omega)] at hbig ⊢
    have hsum : n + sizes ss ≤ 5000 := by omega
    clear hle hl
    have hs1 : ∀ s ∈ ss, s.size ≤ 1048576 := fun s h => by have := size_le_sizes h; omega
    have hsz : (strOfNums (laid kd (ss.map nums))).size = 5 + 8 * n + sizes ss := by
      rw [strOfNums_size, laid_length, total_nums, List.length_map, hT.1]
    have hlen : ss.length ≤ 65536 := by rw [hT.1]; exact hk.2.2
    have HS := Lib.hid hsz
    have HS1 := Lib.hid hs1
    have HL := Lib.hid hlen
    clear hsz hs1 hlen hs
    generalize hq : sizes ss = q at hsum hbig HS ⊢
    clear hq
    go_wp2_with fail
    refine (text_short kd A n cap ss _ (by omega) hk.2.2 hT1 HS1.out).mono ?_
    rintro e w2 ⟨rfl, hb2⟩
    have B2 := B1.trans (hb2.mono B1.size)
    have hT2 := hT1.below hb2
    clear hb2 hT1 hT
    go_wp2_with fail
    have hx0 : strOfNums (laid kd (ss.map nums)) = strOfNums (laid kd (ss.map nums)) ++ ByteArray.empty := by simp
    have p0 := parts_more kd ss ByteArray.empty w2 (by omega) HL.out HS1.out (by rw [← hx0, HS.out]; omega)
    rw [← hx0] at p0
    refine p0.mono ?_
    rintro e w3 ⟨A3, n3, cap3, hb3, ⟨_, rfl, hT3⟩ | ⟨hno, _⟩⟩
    case inr => exact absurd rfl hno
    have B3 := B2.trans (hb3.mono B2.size)
    have hT23 := hT2.below hb3
    clear hb3 hT2 p0 hx0
    have hn3 : n3 ≤ 65536 := by rw [← hT3.1]; exact HL.out
    go_wp2_with fail
    refine (strings_any A3 n3 cap3 ss A n cap ss _ hT3 hT23 (by omega) (by omega)).mono ?_
    rintro e w4 ⟨rfl, m4, hw4⟩
    have B4 : Below w.heap.size w w4 := by rw [hw4]; exact B3.trans ((drewN_below w3 m4).mono B3.size)
    have hsame : decide (ss = ss) = true := by simp
    rw [hsame]
    have PM : Hid (∀ W : World, Calls Try.prog 9 #[.string (strOfNums (laid kd (ss.map nums)) ++ more)] W fun e w' => ∃ A n cap, Below W.heap.size W w' ∧
      ((more.size = 0 ∧ e = .returned (.tuple #[.int .i64 kd, .slice A n cap, .int .i64 0]) ∧ TextsAt w' A n ss) ∨ (more.size ≠ 0 ∧ e = .returned (.tuple #[.int .i64 0, .slice A n cap, .int .i64 3])))) :=
      fun W => parts_more kd ss more W (by omega) HL.out HS1.out (by rw [ByteArray.size_append, HS.out]; omega)
    have PC : Hid (∀ (c : Nat) (W : World), c < (strOfNums (laid kd (ss.map nums))).size → Calls Try.prog 9 #[.string ((strOfNums (laid kd (ss.map nums))).extract 0 c)] W fun e w' => ∃ A n cap, e = .returned (.tuple #[.int .i64 0, .slice A n cap, .int .i64 2]) ∧ Below W.heap.size W w') :=
      fun c W hc => parts_cut kd ss c W HL.out HS1.out (by rw [← strOfNums_size]; exact hc) (by rw [HS.out]; omega)
    have hXs : (strOfNums (laid kd (ss.map nums))).size ≤ 100000 := by rw [HS.out]; omega
    clear hw4 hT3 hT23 HS HS1 HL hsame B1 B2 B3
    generalize strOfNums (laid kd (ss.map nums)) = X at PM PC hXs ⊢
    go_wp2_with fail
    refine (PM.out _).mono ?_
    rintro e w5 ⟨A5, n5, cap5, hb5, hor⟩
    have B5 := B4.trans (hb5.mono B4.size)
    clear PM hb5 B4
    have hres : ∃ (x5 : Int) (c5 : Int), e = .returned (.tuple #[.int .i64 x5, .slice A5 n5 cap5, .int .i64 c5]) ∧ ((c5 == 0) == more.toList.isEmpty) = true := by
      rcases hor with ⟨h0, rfl, _⟩ | ⟨h1, rfl⟩
      · obtain rfl : more = ⟨#[]⟩ := ByteArray.ext (Array.eq_empty_of_size_eq_zero h0)
        exact ⟨_, _, rfl, by rw [ByteArray.toList_eq]; rfl⟩
      · refine ⟨_, _, rfl, ?_⟩
        have : more.toList.isEmpty = false := by
          rw [ByteArray.toList_eq, List.isEmpty_eq_false_iff]
          exact fun e => h1 (by show more.data.size = 0; rw [← Array.length_toList, e]; rfl)
        rw [this]; rfl
    obtain ⟨x5, c5, rfl, hc5⟩ := hres
    clear hor
    by_cases hneg : cut < 0
    · clear PC
      go_wp2
      go_ret
      exact ⟨rfl, B5⟩
    · by_cases hlong : ((X.size : Nat) : Int) ≤ cut
      · clear PC
        go_wp2
        go_ret
        exact ⟨rfl, B5⟩
      · obtain ⟨c, rfl⟩ := Int.eq_ofNat_of_zero_le (show 0 ≤ cut by omega)
        have hcl : (c : Int) < (X.size : Int) := by omega
        have hcl2 : (c : Int) ≤ (X.size : Int) := by omega
        go_wp2_with fail
        refine (PC.out c _ (by omega)).mono ?_
        rintro e w6 ⟨A6, n6, cap6, rfl, hb6⟩
        have B6 := B5.trans (hb6.mono B5.size)
        clear PC
        go_wp2
        go_ret
        exact ⟨rfl, B6⟩
  · clear hs
    go_wp2_with fail
    refine (text_refused kind A n cap _ href).mono ?_
    rintro e w2 ⟨rfl, rfl⟩
    have hne : (refused kind n != 0) = true := by rw [bne_iff_ne]; exact href
    have hwhy : kind < 0 ∨ 255 < kind ∨ (65536 : Int) < (n : Int) := by
      unfold refused at href
      split at href
      · omega
      · split at href
        · omega
        · exact absurd rfl href
    clear hT hT1
    generalize wrap64 ((n : Int) + sizes ss) = v at hbig
    generalize refused kind n = r at hne href
    by_cases h1 : kind < 0
    · go_wp2
      go_ret
      exact ⟨rfl, B1⟩
    · by_cases h2 : 255 < kind
      · go_wp2
        go_ret
        exact ⟨rfl, B1⟩
      · have h3 : (65536 : Int) < (n : Int) := by omega
        go_wp2
        go_ret
        exact ⟨rfl, B1⟩

theorem cells24 : Try.prog.cellsOf 24 = 4 := by kernel_rfl

set_option maxRecDepth 100000 in
theorem lifted (os : Os) (started : os.Started) (H : Type) (enc : TypeId × Value → H) :
    ReturnsInHanded {} Try.checked os 3 .any (Rows.tagBackSpec.pre6 enc Try.prog Try.f3 Rows.tagBackRow.domain false) (Rows.tagBackSpec.post enc Try.prog Try.f3 false true false false) := by
  refine returnsInHanded_of_change_sized (C := Try.checked) own started (by kernel_rfl) Try.func3
    (ChangeSpec.witness6 (enc := enc) (C := Try.checked) false ⟨#[], #[.agg #[.int .i64 0, .slice .none 0 0, .int .i64 0, .string ByteArray.empty]], []⟩ 8 (by kernel_rfl) (by kernel_rfl) (by kernel_rfl) (by kernel_rfl)) ?_
  intro W base args ds gs before hval0 hW hcnd hsz0 _
  have hval : ∀ (j : Nat) t v, Try.f3.params[j]? = some t → args[j]? = some v → Value.okWide Try.prog W .any base t v := hval0
  have hsz : (DataW.weightsEach Try.prog (Try.f3.params.toList ++ Rows.tagBackSpec.plain.varTypes Try.prog) (ds ++ gs)).all (· ≤ reachBytes) = true := hsz0
  have hW' := hW
  obtain ⟨p, q, hA0, hV, rfl, hfz, hnd⟩ := hW
  have hA : DataW.TrodAll enc Try.prog W 0 (fun _ => true) true Try.f3.params.toList args.toList ds p := hA0
  rw [Try.params3] at hA hval hsz
  obtain ⟨v0, d0, rfl, rfl, h0⟩ := trodAll_one hA
  obtain ⟨rfl, rfl⟩ := trodVars_none hV
  have k0 := h0
  have lt0 : ∀ x ∈ p, x.block < W.heap.size := by obtain ⟨m, hm⟩ := k0; exact DataW.trod_lt m _ _ _ hm
  obtain ⟨c0, c1, c2, c3, y0, y1, y2, y3, m, rfl, hd, hp, hy0, hy1, hy2, hy3⟩ := open_agg4 Try.underlying24 (by kernel_rfl) cells24 (hval 0 24 v0 rfl rfl) h0
  obtain ⟨kind, e0, _, _⟩ := DataW.trod_int Try.underlying3 hy0
  obtain ⟨A, len, cap, ss, rfl, hT, hrow⟩ := open_cell hy1
  obtain ⟨cut, e2, _, _⟩ := DataW.trod_int Try.underlying3 hy2
  obtain ⟨more, e3, hm3, _⟩ := DataW.trod_string Try.underlying9 hy3
  simp at e0 e2 e3
  subst e0 e2 e3
  have hall : ∀ x ∈ DataW.weightsEach Try.prog [3, 22, 3, 9] [y0.1, y1.1, y2.1, y3.1], x ≤ reachBytes := by
    intro x hx
    have := List.all_eq_true.1 hsz x (DataW.weights_mem_each (j := 0) (t := 24) rfl rfl x (by
      rw [hd]
      simp only [DataW.weights, Try.underlying24]
      exact hx))
    simpa using this
  obtain ⟨hn, hs⟩ := row_bounds hT hrow (fun x hx => hall x (DataW.weights_mem_each (j := 1) (t := 22) rfl rfl x hx))
  have hmo : more.size ≤ 140737488351232 := by
    have h1 := hall more.data.toList.length (DataW.weights_mem_each (j := 3) (t := 9) rfl rfl _ (by rw [hm3]; simp [DataW.weights]))
    have h2 : reachBytes = 140737488351232 := by decide
    have h3 : more.data.toList.length = more.size := by rw [Array.length_toList]; rfl
    omega
  clear hA0 hval0 hsz0
  refine (walk kind A len cap cut more ss W hT hn hs hmo).mono fun e W' ⟨he, bel⟩ => ?_
  subst he
  exact ⟨_, rfl, _, _, _, [], _, [], hW', trodAll_mk1 (shut_bool Try.underlying4 _), (trodAll_mk1 (Below.trod laidOut (by kernel_rfl) (of_decide_eq_true (by kernel_rfl)) k0 bel lt0)), rfl, bel.frame _, fun h => by cases h⟩

theorem over : Rows.tagBackRow.holds Try.pinned (OpenSpec.ofChange Rows.tagBackSpec) :=
  OpenClaim.holds_of_wide 3 Try.f3 rfl rfl rfl rfl rfl rfl rfl ⟨rfl, rfl, rfl, rfl, rfl⟩ rfl rfl rfl rfl rfl (by kernel_rfl) Try.func3 (by kernel_rfl)
    (of_decide_eq_true (by kernel_rfl)) (by unfold Func.isWrapper; first | (rw [if_pos (by decide +kernel)]; kernel_rfl) | (rw [if_neg (by decide +kernel)]; exact ⟨rfl, rfl⟩))
    (fun os started H enc _ => lifted os started H enc)

theorem proved : Rows.TagBackSaid := over
#print axioms proved
end Go.Proofs.YtdfmaimeogcpdaaRRRR.tagBack
