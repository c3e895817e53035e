/-
  TagApart returns true for every two kinds, every two rows of parts and every text that are of bulk at most 1048576 together: two texts of kinds and parts are the same just if these are, and what is taken is laid as it was.
  Condition: the one of the given statement TagApartUptoSaid (what is read holds at most 1048576 values and letters).
-/
import Derived.Test.YtdfmaimeogcpdaaRRRRBack
namespace Go.Proofs.YtdfmaimeogcpdaaRRRR.tagApart
open Go.ChangeShapes Go.WideShapes Go.ChangeAt Go.RowKit Go.Joins Go.Deep

/-- What Text answers: the text, or why there is none. -/
def TextAns (kind : Int) (ss : List ByteArray) (T : ByteArray) (r : Int) : Prop :=
  (r = 0 ∧ ∃ kd : Nat, kind = kd ∧ kd < 256 ∧ ss.length ≤ 65536 ∧ T = strOfNums (laid kd (ss.map nums))) ∨ (r ≠ 0 ∧ T = ⟨#[]⟩)
theorem text_any (kind : Int) (A : Option Addr) (n cap : Nat) (ss : List ByteArray) (w : World) (hT : TextsAt w A n ss) (hs : ∀ s ∈ ss, s.size ≤ 1048576) :
    Calls Try.prog 8 #[.int .i64 kind, .slice A n cap] w fun e w' => ∃ T r, e = .returned (.tuple #[.string T, .int .i64 r]) ∧ TextAns kind ss T r ∧ Below w.heap.size w w' := by
  by_cases h : refused kind n = 0
  · have hk : 0 ≤ kind ∧ kind ≤ 255 ∧ n ≤ 65536 := by
      unfold refused at h
      split at h
      · cases h
      · split at h
        · cases h
        · omega
    obtain ⟨kd, rfl⟩ := Int.eq_ofNat_of_zero_le hk.1
    refine (text_short kd A n cap ss w (by omega) hk.2.2 hT hs).mono ?_
    rintro e w' ⟨rfl, hb⟩
    exact ⟨_, _, rfl, .inl ⟨rfl, kd, rfl, by omega, by rw [hT.1]; exact hk.2.2, rfl⟩, hb⟩
  · refine (text_refused kind A n cap w h).mono ?_
    rintro e w' ⟨rfl, rfl⟩
    exact ⟨_, _, rfl, .inr ⟨h, rfl⟩, Below.refl _ _⟩
theorem map_bytes (ss : List ByteArray) : ∀ p ∈ ss.map nums, Bytes p := fun p hp => by
  obtain ⟨s, _, rfl⟩ := List.mem_map.1 hp
  exact nums_bytes s
theorem map_short (ss : List ByteArray) (hs : ∀ s ∈ ss, s.size ≤ 1048576) : ∀ p ∈ ss.map nums, p.length < 18446744073709551616 := fun p hp => by
  obtain ⟨s, h, rfl⟩ := List.mem_map.1 hp
  have := hs s h
  rw [nums_length]; omega
/-- Two texts are the same just if the kinds and the parts are. -/
theorem apart {a b : Int} {xs ys : List ByteArray} {T U : ByteArray} (h1 : TextAns a xs T 0) (h2 : TextAns b ys U 0) (hx : ∀ s ∈ xs, s.size ≤ 1048576) (hy : ∀ s ∈ ys, s.size ≤ 1048576) : (T.toList == U.toList) = (decide (a = b) && decide (xs = ys)) := by
  rcases h1 with ⟨_, k, rfl, hk, hn, rfl⟩ | ⟨h, _⟩
  case inr => exact absurd rfl h
  rcases h2 with ⟨_, l, rfl, hl, hm, rfl⟩ | ⟨h, _⟩
  case inr => exact absurd rfl h
  rw [eq_text]
  by_cases h : (k : Int) = l ∧ xs = ys
  · obtain ⟨h1, rfl⟩ := h
    obtain rfl : k = l := by omega
    simp
  · have hne : ¬ strOfNums (laid k (xs.map nums)) = strOfNums (laid l (ys.map nums)) := fun e => h (by
      have e2 : laid k (xs.map nums) = laid l (ys.map nums) := by
        rw [← nums_strOfNums _ (laid_bytes k _ (map_bytes xs)), e, nums_strOfNums _ (laid_bytes l _ (map_bytes ys))]
      obtain ⟨h1, h2⟩ := laid_inj k l _ _ hk hl (by rw [List.length_map]; exact hn) (by rw [List.length_map]; exact hm) (map_short xs hx) (map_short ys hy) e2
      exact ⟨by omega, tagBack.map_nums_inj h2⟩)
    rw [decide_eq_false hne]
    by_cases h1 : (k : Int) = l
    · have h2 : ¬ xs = ys := fun e => h ⟨h1, e⟩
      simp [h2]
    · rw [decide_eq_false h1]; rfl

set_option maxRecDepth 100000 in
set_option maxHeartbeats 4000000 in
theorem walk (a : Int) (A : Option Addr) (n cap : Nat) (b : Int) (A' : Option Addr) (n' cap' : Nat) (s : ByteArray) (xs ys : List ByteArray) (w : World) (hX : TextsAt w A n xs) (hY : TextsAt w A' n' ys)
    (h1 : n + sizes xs ≤ 1048576) (h2 : n' + sizes ys ≤ 1048576) (h3 : s.size ≤ 1048576) :
    Calls Try.prog 4 #[.agg #[.int .i64 a, .slice A n cap, .int .i64 b, .slice A' n' cap', .string s]] w fun e w' => e = .returned (.bool true) ∧ Below w.heap.size w w' := by
  have hsx : ∀ s ∈ xs, s.size ≤ 1048576 := fun s h => by have := size_le_sizes h; omega
  have hsy : ∀ s ∈ ys, s.size ≤ 1048576 := fun s h => by have := size_le_sizes h; omega
  have HX := Lib.hid hsx
  have HY := Lib.hid hsy
  clear hsx hsy
  go_enter Try.func4, Try.ntmps4
  go_wp2_with fail
  refine (shown_any _).mono ?_
  rintro e w1 ⟨rfl, b1⟩
  have B1 : Below w.heap.size w w1 := ((Below.refl _ _).alloc (Nat.le_refl _) _).trans (b1.mono (by simp))
  have X1 := hX.below B1
  have Y1 := hY.below B1
  clear b1 hX hY
  go_wp2_with fail
  refine (long_any A n cap xs _ X1 (by omega) (fun s h => by have := HX.out s h; omega)).mono ?_
  rintro e w1' ⟨rfl, rfl⟩
  rw [wrap64_in _ (by omega) (by omega)]
  go_wp2_with fail
  refine (long_any A' n' cap' ys _ Y1 (by omega) (fun s h => by have := HY.out s h; omega)).mono ?_
  rintro e w1'' ⟨rfl, rfl⟩
  rw [wrap64_in _ (by omega) (by omega)]
  generalize sizes xs = p at h1 ⊢
  generalize sizes ys = q at h2 ⊢
  by_cases hbig : 5000 < (n : Int) + p + ((n' : Int) + q)
  · clear X1 Y1
    go_wp2
    go_ret
    exact ⟨rfl, B1⟩
  go_wp2_with fail
  refine (text_any a A n cap xs _ X1 HX.out).mono ?_
  rintro e w2 ⟨T, r, rfl, ht, hb2⟩
  have B2 := B1.trans (hb2.mono B1.size)
  have X2 := X1.below hb2
  have Y2 := Y1.below hb2
  have HT := Lib.hid ht
  clear hb2 X1 Y1 ht
  go_wp2_with fail
  refine (text_any b A' n' cap' ys _ Y2 HY.out).mono ?_
  rintro e w3 ⟨U, r', rfl, hu, hb3⟩
  have B3 := B2.trans (hb3.mono B2.size)
  have X3 := X2.below hb3
  have Y3 := Y2.below hb3
  have HU := Lib.hid hu
  clear hb3 X2 Y2 hu
  go_wp2_with fail
  refine (strings_any A n cap xs A' n' cap' ys _ X3 Y3 (by omega) (by omega)).mono ?_
  rintro e w4 ⟨rfl, m4, hw4⟩
  have B4 : Below w.heap.size w w4 := by rw [hw4]; exact B3.trans ((drewN_below w3 m4).mono B3.size)
  have hcases : (r == 0) = false ∨ ((r == 0) = true ∧ (r' == 0) = false) ∨ ((r == 0) = true ∧ (r' == 0) = true ∧ (a == b) = false ∧ (T.toList == U.toList) = false) ∨ ((r == 0) = true ∧ (r' == 0) = true ∧ (a == b) = true ∧ (T.toList == U.toList) = decide (xs = ys)) := by
    by_cases hr : r = 0
    · by_cases hr' : r' = 0
      · subst hr hr'
        have := apart HT.out HU.out HX.out HY.out
        by_cases hab : a = b
        · subst hab
          exact .inr (.inr (.inr ⟨rfl, rfl, by simp, by rw [this]; simp⟩))
        · exact .inr (.inr (.inl ⟨rfl, rfl, by simp [hab], by rw [this]; simp [hab]⟩))
      · exact .inr (.inl ⟨by simp [hr], by simp [hr']⟩)
    · exact .inl (by simp [hr])
  have PA := Lib.hid (fun W : World => parts_any s W (by omega))
  clear hw4 X3 Y3 HT HU HX HY B1 B2 B3
  generalize decide (xs = ys) = same at hcases ⊢
  rcases hcases with c1 | ⟨c1, c2⟩ | ⟨c1, c2, c3, c4⟩ | ⟨c1, c2, c3, c4⟩
  all_goals go_wp2_with fail
  all_goals refine (PA.out _).mono ?_
  all_goals
    rintro e w5 ⟨A5, n5, cap5, ts, rfl, hT5, hts, hn5, hb5⟩
    have B5 := B4.trans (hb5.mono B4.size)
    clear hb5 PA
    by_cases hg : (partsOf (nums s)).2.2 = 0
    · obtain ⟨g0, g1, g2, g3⟩ := laid_partsOf (nums s) (nums_bytes s) hg
      obtain ⟨kd, hkd⟩ := Int.eq_ofNat_of_zero_le g0
      have hlen : ts.length ≤ 65536 := by rw [← List.length_map (f := nums), hts]; exact g2
      have hl3 := congrArg List.length g3
      rw [laid_length, nums_length] at hl3
      have hst : ∀ t ∈ ts, t.size ≤ 1048576 := fun t ht => by
        have : nums t ∈ (partsOf (nums s)).2.1 := by rw [← hts]; exact List.mem_map_of_mem ht
        have := part_le_total this
        rw [nums_length] at this
        omega
      have hlast : strOfNums (laid kd (ts.map nums)) = s := by
        rw [hts, show kd = (partsOf (nums s)).1.toNat by rw [hkd]; rfl, g3, strOfNums_nums]
      rw [hg, hkd]
      have TS := Lib.hid (fun W hT => text_short kd A5 n5 cap5 ts W (by omega) hn5 hT hst)
      rw [hlast] at TS
      have hss : (s.toList == s.toList) = true := by simp
      clear hts hst hlen hl3 hlast g0 g1 g2 g3 hg hkd
      go_wp2_with fail
      refine (TS.out _ hT5).mono ?_
      rintro e w6 ⟨rfl, hb6⟩
      have B6 := B5.trans (hb6.mono B5.size)
      clear TS hT5
      go_wp2
      go_ret
      exact ⟨rfl, B6⟩
    · have hg2 : ((partsOf (nums s)).2.2 != 0) = true := by rw [bne_iff_ne]; exact hg
      generalize (partsOf (nums s)).2.2 = g at hg hg2
      generalize (partsOf (nums s)).1 = k at hts
      clear hts hT5
      go_wp2
      go_ret
      exact ⟨rfl, B5⟩

/-! ### The row -/
theorem cells35 : Try.prog.cellsOf 35 = 5 := by kernel_rfl
/-- A struct of five fields of one cell each, by value. -/
theorem open_five {H : Type} {enc : TypeId × Value → H} {P : Program} {w : World} {base : Nat} {spare : Nat → Bool} {held : Bool} {r : Reach} {b0 : Nat} {t : TypeId} {f0 f1 f2 f3 f4 : Field} {v : Value} {d : DataW H} {p : List MemPlace}
    (hs : P.underlying t = some (.struct #[f0, f1, f2, f3, f4])) (hone : oneCellFields P #[f0, f1, f2, f3, f4] = true) (hC : P.cellsOf t = 5) (hv : Value.okWide P w r b0 t v) (h : DataW.Trod enc P w base spare held t v d p) :
    ∃ (v0 v1 v2 v3 v4 : Value) (y0 y1 y2 y3 y4 : DataW H × List MemPlace) (n : Nat), v = .agg #[v0, v1, v2, v3, v4] ∧ d = .agg [y0.1, y1.1, y2.1, y3.1, y4.1] ∧
      DataW.trod enc P w base spare held n f0.type [v0] = some y0 ∧ DataW.trod enc P w base spare held n f1.type [v1] = some y1 ∧ DataW.trod enc P w base spare held n f2.type [v2] = some y2 ∧
      DataW.trod enc P w base spare held n f3.type [v3] = some y3 ∧ DataW.trod enc P w base spare held n f4.type [v4] = some y4 := by
  obtain ⟨cs, rfl, hsz⟩ := okWide_struct hs hv
  obtain ⟨c0, c1, c2, c3, c4, rfl⟩ : ∃ c0 c1 c2 c3 c4, cs = #[c0, c1, c2, c3, c4] := by
    obtain ⟨l⟩ := cs
    match l, hsz.trans hC with
    | [c0, c1, c2, c3, c4], _ => exact ⟨c0, c1, c2, c3, c4, rfl⟩
  obtain ⟨fuel, hf⟩ := h
  obtain ⟨xs, n, _, hx, hl, hlen, hall⟩ := DataW.trod_struct hs hf
  match xs, hlen with
  | [y0, y1, y2, y3, y4], _ =>
    obtain ⟨o0, k0⟩ := hone_of hone 0 f0 rfl
    obtain ⟨o1, k1⟩ := hone_of hone 1 f1 rfl
    obtain ⟨o2, k2⟩ := hone_of hone 2 f2 rfl
    obtain ⟨o3, k3⟩ := hone_of hone 3 f3 rfl
    obtain ⟨o4, k4⟩ := hone_of hone 4 f4 rfl
    have hd : d = .agg [y0.1, y1.1, y2.1, y3.1, y4.1] := by
      have := congrArg Prod.fst hx
      simpa using this
    exact ⟨c0, c1, c2, c3, c4, y0, y1, y2, y3, y4, n, rfl, hd, by simpa [Value.cells, o0, k0] using hall 0 f0 rfl, by simpa [Value.cells, o1, k1] using hall 1 f1 rfl,
      by simpa [Value.cells, o2, k2] using hall 2 f2 rfl, by simpa [Value.cells, o3, k3] using hall 3 f3 rfl, by simpa [Value.cells, o4, k4] using hall 4 f4 rfl⟩

theorem bulk_strs {H : Type} (ss : List ByteArray) : Rows.uptoBulkAll (strs (H := H) ss) = ss.length + sizes ss := by
  induction ss with
  | nil => rfl
  | cons t ss ih =>
    have e : strs (H := H) (t :: ss) = .lit (.string t.data.toList) :: strs ss := rfl
    have e2 : sizes (t :: ss) = t.size + sizes ss := by simp [sizes]
    have e3 : t.data.toList.length = t.size := by rw [Array.length_toList]; rfl
    rw [e]
    simp only [Rows.uptoBulkAll, Rows.uptoBulk, ih, List.length_cons, e2, e3]
    omega
theorem bulk_row {H : Type} {W : World} {A : Option Addr} {len : Nat} {d : DataW H} {ss : List ByteArray} (hT : TextsAt W A len ss) (hd : (d = .nil ∧ ss = []) ∨ ∃ spare, d = .slice (strs ss) spare) : len + sizes ss ≤ Rows.uptoBulk d := by
  rcases hd with ⟨rfl, rfl⟩ | ⟨spare, rfl⟩
  · have : len = 0 := hT.1.symm
    subst this
    simp [sizes]
  · simp only [Rows.uptoBulk, bulk_strs, hT.1]
    omega

theorem contract (H : Type) (enc : TypeId × Value → H) (W : World) (base : Nat) (args : Array Value) (ds gs : List (DataW H)) (before : List MemPlace)
    (hval : ∀ (j : Nat) t v, Try.f4.params[j]? = some t → args[j]? = some v → Value.okWide Try.prog W .any base t v)
    (hW : DataW.Whole enc Try.prog Try.f4.params.toList Rows.tagApartSpec.vars false W args.toList ds gs before) (hk : Rows.uptoSmall H (ds ++ gs) = true) :
    Calls Try.prog 4 args W fun e W' => ∃ v, e = .returned v ∧ Rows.tagApartSpec.post enc Try.prog Try.f4 false true false false W args v W' := by
  have hW' := hW
  obtain ⟨p, q, hA0, hV, rfl, hfz, hnd⟩ := hW
  have hA : DataW.TrodAll enc Try.prog W 0 (fun _ => true) true Try.f4.params.toList args.toList ds p := hA0
  rw [Try.params4] at hA hval
  obtain ⟨v0, d0, rfl, rfl, h0⟩ := trodAll_one hA
  obtain ⟨rfl, rfl⟩ := trodVars_none hV
  have k0 := h0
  have lt0 : ∀ x ∈ p, x.block < W.heap.size := by obtain ⟨m, hm⟩ := k0; exact DataW.trod_lt m _ _ _ hm
  obtain ⟨c0, c1, c2, c3, c4, y0, y1, y2, y3, y4, m, rfl, hd, hy0, hy1, hy2, hy3, hy4⟩ := open_five Try.underlying35 (by kernel_rfl) cells35 (hval 0 35 v0 rfl rfl) h0
  obtain ⟨a, e0, _, _⟩ := DataW.trod_int Try.underlying3 hy0
  obtain ⟨A, n, cap, xs, rfl, hX, hx⟩ := open_cell hy1
  obtain ⟨b, e2, _, _⟩ := DataW.trod_int Try.underlying3 hy2
  obtain ⟨A', n', cap', ys, rfl, hY, hy⟩ := open_cell hy3
  obtain ⟨s, e4, hs4, _⟩ := DataW.trod_string Try.underlying9 hy4
  simp at e0 e2 e4
  subst e0 e2 e4
  have hb : Rows.uptoBulkAll [d0] ≤ 1048576 := of_decide_eq_true hk
  have b1 := bulk_row hX hx
  have b2 := bulk_row hY hy
  have b3 : s.size + 1 = Rows.uptoBulk y4.1 := by
    rw [hs4]
    simp only [Rows.uptoBulk]
    rw [Array.length_toList]; rfl
  rw [hd] at hb
  simp only [Rows.uptoBulkAll, Rows.uptoBulk] at hb
  clear hA0
  refine (walk a A n cap b A' n' cap' s xs ys W hX hY (by omega) (by omega) (by omega)).mono fun e W' ⟨he, bel⟩ => ?_
  subst he
  exact ⟨_, rfl, _, _, _, [], _, [], hW', trodAll_mk1 (shut_bool Try.underlying4 _), (trodAll_mk1 (Below.trod laidOut (by kernel_rfl) (of_decide_eq_true (by kernel_rfl)) k0 bel lt0)), rfl, bel.frame _, fun h => by cases h⟩

set_option maxRecDepth 100000 in
theorem lifted (os : Os) (started : os.Started) (H : Type) (enc : TypeId × Value → H) (F : Stop.Interp) :
    ReturnsInHanded {} Try.checked os 4 .any ((Rows.OpenSpec.upto Rows.tagApartSpec).pre6 enc Try.prog Try.f4 Rows.tagApartUptoRow.domain false) (((Rows.OpenSpec.upto Rows.tagApartSpec).at F).post enc Try.prog Try.f4 false true false false) := by
  refine returnsInHanded_of_cond (C := Try.checked) (s := Rows.OpenSpec.upto Rows.tagApartSpec) (k := Rows.uptoSmall) rfl own started (by kernel_rfl) Try.func4
    (OpenSpec.witness (enc := enc) (C := Try.checked) (s := Rows.OpenSpec.upto Rows.tagApartSpec) (k := Rows.uptoSmall) rfl false ⟨#[], #[.agg #[.int .i64 0, .slice .none 0 0, .int .i64 0, .slice .none 0 0, .string ByteArray.empty]], []⟩ 8 (by kernel_rfl) (by kernel_rfl) (by kernel_rfl)
      (x := ([.agg [.lit (.int .i64 0), .nil, .lit (.int .i64 0), .nil, .lit (.string [])]], [], [])) (by kernel_rfl) rfl (by kernel_rfl)) ?_
  intro W base args ds gs before hval hW _ hk _
  exact contract H enc W base args ds gs before hval hW hk

theorem proved : Rows.TagApartUptoSaid :=
  OpenClaim.holds_of_cond 4 Try.f4 rfl rfl rfl rfl rfl rfl rfl ⟨rfl, rfl, rfl, rfl, rfl⟩ rfl rfl rfl rfl rfl (by kernel_rfl) Try.func4 (by kernel_rfl)
    (of_decide_eq_true (by kernel_rfl)) (by unfold Func.isWrapper; first | (rw [if_pos (by decide +kernel)]; kernel_rfl) | (rw [if_neg (by decide +kernel)]; exact ⟨rfl, rfl⟩))
    (fun os started H enc _ F => lifted os started H enc F)
#print axioms proved
end Go.Proofs.YtdfmaimeogcpdaaRRRR.tagApart
