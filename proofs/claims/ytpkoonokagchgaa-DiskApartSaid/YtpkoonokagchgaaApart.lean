/-
  DiskApart returns true for every disk, row of numbers and number: a crash changes no sector that wasn't written since; a sector that was has, byte by byte, one of what was kept and what was written.
  Conditions: none (every input).
-/
import Derived.Test.YtpkoonokagchgaaApartReg
namespace Go.Proofs.Ytpkoonokagchgaa.diskApart
open Go.ChangeShapes Go.WideShapes Go.ChangeAt Go.RowKit Go.Joins

/-- One of some writes put this byte there. -/
def Hit (ws : List Wr) (j i : Nat) (y : ByteArray) : Prop := ∃ w ∈ ws, w.p = (j : Int) ∧ i < w.s.size ∧ byteL w.s i = byteL y i
theorem hit_next {ws : List Wr} {k j i : Nat} {y : ByteArray} {x : Wr} (hx : ws[k]? = some x) : Hit (ws.take (k + 1)) j i y ↔ Hit (ws.take k) j i y ∨ (x.p = (j : Int) ∧ i < x.s.size ∧ byteL x.s i = byteL y i) := by
  unfold Hit
  rw [List.take_add_one, hx]
  constructor
  · rintro ⟨w, hw, h⟩
    rw [List.mem_append] at hw
    rcases hw with hw | hw
    · exact .inl ⟨w, hw, h⟩
    · simp at hw
      subst hw
      exact .inr h
  · rintro (⟨w, hw, h⟩ | h)
    · exact ⟨w, by simp [hw], h⟩
    · exact ⟨x, by simp, h⟩

set_option maxHeartbeats 4000000 in
set_option maxRecDepth 100000 in
theorem walk (d : Dk) (ks : List Int) (o : Int) (kA : Option Addr) (kc : Nat) (wA : Option Addr) (wc : Nat) (KA : Option Addr) (KC : Nat) (w : World) (hA : At w d kA kc wA wc) (hK : RowI w KA KC ks) (hKC : KC ≤ 9223372036854775807) :
    Calls Try.prog 6 #[dval d kA kc wA wc, .slice KA ks.length KC, .int .i64 o] w fun e w' => e = .returned (.bool true) ∧ Below w.heap.size w w' := by
  obtain ⟨F, hF⟩ := few_is d
  obtain ⟨n, hn⟩ : ∃ n, d.ks.length = n := ⟨_, rfl⟩
  obtain ⟨m, hm⟩ : ∃ m, d.ws.length = m := ⟨_, rfl⟩
  obtain ⟨q, hq⟩ : ∃ q, ks.length = q := ⟨_, rfl⟩
  obtain ⟨sz, hs⟩ : ∃ sz, d.sz = sz := ⟨_, rfl⟩
  obtain ⟨off, ho⟩ : ∃ off, d.off = off := ⟨_, rfl⟩
  have HFEW : Hid (∀ W, Below w.heap.size w W → Calls Try.prog 14 #[.agg #[.int .i64 sz, .slice kA n kc, .slice wA m wc, .bool off]] W fun e w' => e = .returned (.bool F) ∧ Below W.heap.size W w') := Lib.hid fun W hW => by
    subst hn hm hs ho
    exact few_any d F hF kA kc wA wc W (hA.below hW)
  have HD3 : Hid (DB (w.alloc (.cells #[.int .i64 sz, .slice kA n kc, .slice wA m wc, .bool off] 25)) w.heap.size d sz n m kA kc wA wc off) := Lib.hid (DB.new hA sz n m off)
  have HB0 : Hid (Below w.heap.size w (w.alloc (.cells #[.int .i64 sz, .slice kA n kc, .slice wA m wc, .bool off] 25))) := Lib.hid (alloc_below w _)
  unfold dval
  rw [hn, hm, hq, hs, ho]
  by_cases hT : F = true
  · subst hT
    by_cases hp0 : o < 0
    · clear hF hn hm hs ho hq hA hK hKC
      go_enter Try.func6, Try.ntmps6
      go_wp2_with fail
      refine (shown_any _).mono ?_
      rintro e w1 ⟨rfl, hb1⟩
      have HB1 := Lib.hid (below_trans HB0.out hb1)
      have HE1 := Lib.hid (HD3.out.below hb1)
      obtain ⟨z0, z1, z2, z3⟩ := HE1.out.four
      clear hb1 HD3 HB0
      go_wp2_with fail
      refine (HFEW.out _ HB1.out).mono ?_
      rintro e w2 ⟨rfl, hb2⟩
      have HB2 := Lib.hid (below_trans HB1.out hb2)
      have HE2 := Lib.hid (HE1.out.below hb2)
      clear z0 z1 z2 z3
      obtain ⟨z0, z1, z2, z3⟩ := HE2.out.four
      clear hb2 HE1 HB1 HFEW
      go_wp2
      go_ret
      exact ⟨rfl, HB2.out⟩
    by_cases hp1 : (n : Int) ≤ o
    · clear hF hn hm hs ho hq hA hK hKC
      go_enter Try.func6, Try.ntmps6
      go_wp2_with fail
      refine (shown_any _).mono ?_
      rintro e w1 ⟨rfl, hb1⟩
      have HB1 := Lib.hid (below_trans HB0.out hb1)
      have HE1 := Lib.hid (HD3.out.below hb1)
      obtain ⟨z0, z1, z2, z3⟩ := HE1.out.four
      clear hb1 HD3 HB0
      go_wp2_with fail
      refine (HFEW.out _ HB1.out).mono ?_
      rintro e w2 ⟨rfl, hb2⟩
      have HB2 := Lib.hid (below_trans HB1.out hb2)
      have HE2 := Lib.hid (HE1.out.below hb2)
      clear z0 z1 z2 z3
      obtain ⟨z0, z1, z2, z3⟩ := HE2.out.four
      clear hb2 HE1 HB1 HFEW
      go_wp2
      go_ret
      exact ⟨rfl, HB2.out⟩
    obtain ⟨f1, f2, hd⟩ := hF.1 rfl
    obtain ⟨j, rfl⟩ : ∃ j : Nat, o = (j : Int) := ⟨o.toNat, by omega⟩
    have hj : j < n := by omega
    have hsz1 := hd.s1
    have hsz2 := hd.s2
    obtain ⟨Z, rfl⟩ : ∃ Z : Nat, sz = (Z : Int) := ⟨sz.toNat, by omega⟩
    have hZ : Z ≤ 1024 := by omega
    have hm40 : m ≤ 40 := by omega
    have hlc : (crashD d ks).length = n := by rw [crashD_length]; exact hn
    have hysz : ((crashD d ks).getD j ByteArray.empty).size = Z := by rw [(crashD_sized hd ks).getD (by omega)]; omega
    have hxsz : (d.ks.getD j ByteArray.empty).size = Z := by rw [hd.sized.getD (by omega)]; omega
    have HY : Hid ((crashD d ks)[j]? = some ((crashD d ks).getD j ByteArray.empty)) := Lib.hid (by rw [List.getD_eq_getElem?_getD, List.getElem?_eq_getElem (by omega)]; rfl)
    have HX : Hid (d.ks[j]? = some (d.ks.getD j ByteArray.empty)) := Lib.hid (by rw [List.getD_eq_getElem?_getD, List.getElem?_eq_getElem (by omega)]; rfl)
    have HBY := Lib.hid (fun i => crash_byte hd ks j i)
    have HCR : Hid (∀ W, At W d kA kc wA wc → RowI W KA KC ks → Calls Try.prog 22 #[.agg #[.int .i64 (Z : Int), .slice kA n kc, .slice wA m wc, .bool off], .slice KA q KC] W fun e w' => ∃ A' c', e = .returned (.agg #[.int .i64 (Z : Int), .slice A' n c', .slice none 0 0, .bool false]) ∧ RowT w' A' c' (crashD d ks) ∧ Below W.heap.size W w') := Lib.hid fun W h hk => by
      have := crash_any d hd ks kA kc wA wc KA KC W h (by omega) hk hKC
      unfold dval at this
      rw [hs] at this
      subst hn hm hq ho
      exact this.mono fun e w' ⟨A', c', h1, h2, _, h3⟩ => ⟨A', c', h1, h2, h3⟩
    have HK : Hid (∀ W, Below w.heap.size w W → RowI W KA KC ks) := Lib.hid fun W hW => hK.below hW
    have HN := Lib.hid hn
    have HM := Lib.hid hm
    have HLC := Lib.hid hlc
    generalize (crashD d ks).getD j ByteArray.empty = y at *
    generalize d.ks.getD j ByteArray.empty = x at *
    generalize crashD d ks = C at *
    clear hF hn hm hs ho hq f1 f2 hd hA hK hKC hlc hsz1 hsz2
    go_enter Try.func6, Try.ntmps6
    go_wp2_with fail
    refine (shown_any _).mono ?_
    rintro e w1 ⟨rfl, hb1⟩
    have HB1 := Lib.hid (below_trans HB0.out hb1)
    have HE1 := Lib.hid (HD3.out.below hb1)
    obtain ⟨z0, z1, z2, z3⟩ := HE1.out.four
    clear hb1 HD3 HB0
    go_wp2_with fail
    refine (HFEW.out _ HB1.out).mono ?_
    rintro e w2 ⟨rfl, hb2⟩
    have HB2 := Lib.hid (below_trans HB1.out hb2)
    have HE2 := Lib.hid (HE1.out.below hb2)
    clear z0 z1 z2 z3
    obtain ⟨z0, z1, z2, z3⟩ := HE2.out.four
    clear hb2 HE1 HB1 HFEW
    go_wp2_with fail
    refine (HCR.out _ HE2.out.a (HK.out _ HB2.out)).mono ?_
    rintro e w3 ⟨A9, c9, rfl, hr9, hb3⟩
    have H9 := Lib.hid (BR.new hr9 (Z : Int) n)
    have HE3 := Lib.hid ((HE2.out.below hb3).below (alloc_below w3 (.cells #[.int .i64 (Z : Int), .slice A9 n c9, .slice none 0 0, .bool false] 25)))
    have HB3 := Lib.hid (below_trans (below_trans HB2.out hb3) (alloc_below w3 (.cells #[.int .i64 (Z : Int), .slice A9 n c9, .slice none 0 0, .bool false] 25)))
    clear hr9 hb3 HE2 HB2 z0 z1 z2 z3 HCR HK
    go_upto_region 6 with fail
    obtain ⟨V, hV⟩ : ∃ V, w3.alloc (.cells #[.int .i64 (Z : Int), .slice A9 n c9, .slice none 0 0, .bool false] 25) = V := ⟨_, rfl⟩
    rw [hV] at H9 HE3 HB3 ⊢
    clear hV
    generalize w3.heap.size = r9 at *
    obtain ⟨b9, o9, rfl, hl9, hc9⟩ := H9.out.t.cell (j := j) (by rw [HLC.out]; exact hj)
    obtain ⟨b3, o3, rfl, hl3, hc3⟩ := HE3.out.a.rowT.cell (j := j) (by rw [HN.out]; exact hj)
    have H1 : Hid (∀ W, Below V.heap.size V W → W.cell? ⟨b9, o9 + j, none⟩ = some (.string y) ∧ W.cell? ⟨b3, o3 + j, none⟩ = some (.string x)) := Lib.hid fun W hW => ⟨((bcell hW).1 _ _ hl9).trans (hc9 j y HY.out), ((bcell hW).1 _ _ hl3).trans (hc3 j x HX.out)⟩
    clear hl9 hc9 hl3 hc3
    obtain ⟨e1, e2⟩ := H1.out _ (drew_below V)
    obtain ⟨z0, z1, z2, z3⟩ := (H9.out.below (drew_below V)).x.four
    obtain ⟨y0, y1, y2, y3⟩ := (HE3.out.below (drew_below V)).four
    go_wp2_with fail
    go_region
    clear e1 e2 z0 z1 z2 z3 y0 y1 y2 y3
    go_wp2_with fail
    go_loopw [10] (fun i wr => ∃ k : Nat, k ≤ Z ∧ i = .int .i64 k ∧ Below V.heap.size V wr) (fun i _ => Z - (intOf i).toNat)
    case atStart => exact ⟨0, Nat.zero_le _, rfl, drew_below V⟩
    case round =>
      rename World => wr
      obtain ⟨k, hk, rfl, hB⟩ := hrel
      have x0 := ((HE3.out.below hB).x.cell 0 (v := .int .i64 (Z : Int)) rfl)
      by_cases hlt : k < Z
      · have BD := below_trans hB (drew_below wr)
        obtain ⟨e1, e2⟩ := H1.out _ BD
        obtain ⟨z0, z1, z2, z3⟩ := (H9.out.below BD).x.four
        obtain ⟨y0, y1, y2, y3⟩ := (HE3.out.below BD).four
        have hky : k < y.size := by omega
        have hkx : k < x.size := by omega
        have HEQ := Lib.hid (byte_eq hky hkx)
        go_upto_region 11 with fail
        go_region
        clear e1 e2 z0 z1 z2 z3 y0 y1 y2 y3 x0
        have HS0 : Hid (((((y[k]'hky).toNat : Nat) : Int) == (((x[k]'hkx).toNat : Nat) : Int)) = true ↔ byteL y k = byteL x k ∨ Hit (d.ws.take 0) j k y) := Lib.hid (by
          rw [beq_iff_eq, HEQ.out]
          exact ⟨.inl, fun h => h.elim id fun ⟨w, hw, _⟩ => by simp at hw⟩)
        go_wp2_with fail
        go_loopw [11, 12] (fun bv i2 wz => ∃ (k2 : Nat) (b : Bool), k2 ≤ m ∧ bv = .bool b ∧ i2 = .int .i64 k2 ∧ Hid (b = true ↔ byteL y k = byteL x k ∨ Hit (d.ws.take k2) j k y) ∧ Below V.heap.size V wz) (fun _ i2 _ => m - (intOf i2).toNat)
        case atStart => exact ⟨0, _, Nat.zero_le _, rfl, rfl, HS0, BD⟩
        case round =>
          rename World => wz
          obtain ⟨k2, b, hk2, rfl, rfl, hit, hBz⟩ := hrel
          have x2 := ((HE3.out.below hBz).x.cell 2 (v := .slice wA m wc) rfl)
          by_cases hlt2 : k2 < m
          · have hk2l : k2 < d.ws.length := by rw [HM.out]; exact hlt2
            have BZ := below_trans hBz (drew_below wz)
            obtain ⟨bw, ow, rfl, hlw, hcw⟩ := (HE3.out.below BZ).a.rowW.cell hk2l
            obtain ⟨v, hv⟩ : ∃ v, d.ws[k2]? = some v := ⟨_, List.getElem?_eq_getElem hk2l⟩
            obtain ⟨c0, c1⟩ := hcw k2 v hv
            have HNX := Lib.hid (hit_next (k := k2) (j := j) (i := k) (y := y) hv)
            have HBZ := Lib.hid BZ
            obtain ⟨e1, e2⟩ := H1.out _ BZ
            obtain ⟨z0, z1, z2, z3⟩ := (H9.out.below BZ).x.four
            obtain ⟨y0, y1, y2, y3⟩ := (HE3.out.below BZ).four
            clear hlw hcw hv hk2l BZ
            go_upto_region 15 with fail
            refine reg15_walk hm40 hlt2 hj hky y2 c0 c1 z1 e1 ?_
            intro u79 u80 u81 u82 u83 u84 u85 u86 u87 u88 u89 u90 u91 u92 u93 u94 u95 u96 u97 u98 u99 u100 u101 u102 u103 u104 u105 u106 u107 u108 u109 u110 u111 u112 u113 u114 u115 u116 u117 u118 res hres
            have HRES : Hid (res = true ↔ byteL y k = byteL x k ∨ Hit (d.ws.take (k2 + 1)) j k y) := Lib.hid (by
              rw [hres, HNX.out, hit.out, or_assoc])
            clear hres hit HNX e1 e2 z0 z1 z2 z3 y0 y1 y2 y3 c0 c1 x2
            go_wp2_with fail
            go_roundw
            case rel => exact ⟨k2 + 1, res, by omega, rfl, by go_num, HRES, HBZ.out⟩
            case measure => simp [intOf]; omega
          · obtain rfl : m = k2 := by omega
            have htk : d.ws.take m = d.ws := List.take_of_length_le (by have := HM.out; omega)
            have hbt : b = true := hit.out.2 (by
              rw [htk]
              exact HBY.out k)
            subst hbt
            clear hit htk
            go_wp2_with fail
            go_roundw
            case rel => exact ⟨k + 1, by omega, by go_num, hBz⟩
            case measure => simp [intOf]; omega
      · obtain rfl : Z = k := by omega
        have HBF := Lib.hid (below_trans HB3.out hB)
        obtain ⟨z0, z1, z2, z3⟩ := (H9.out.below hB).x.four
        go_wp2
        go_ret
        exact ⟨by simp, HBF.out⟩
  · obtain rfl : F = false := by cases F <;> simp_all
    clear hF hT hn hm hs ho hq hA hK hKC
    go_enter Try.func6, Try.ntmps6
    go_wp2_with fail
    refine (shown_any _).mono ?_
    rintro e w1 ⟨rfl, hb1⟩
    have HB1 := Lib.hid (below_trans HB0.out hb1)
    have HE1 := Lib.hid (HD3.out.below hb1)
    obtain ⟨z0, z1, z2, z3⟩ := HE1.out.four
    clear hb1 HD3 HB0
    go_wp2_with fail
    refine (HFEW.out _ HB1.out).mono ?_
    rintro e w2 ⟨rfl, hb2⟩
    have HB2 := Lib.hid (below_trans HB1.out hb2)
    have HE2 := Lib.hid (HE1.out.below hb2)
    clear z0 z1 z2 z3
    obtain ⟨z0, z1, z2, z3⟩ := HE2.out.four
    clear hb2 HE1 HB1 HFEW
    go_wp2
    go_ret
    exact ⟨rfl, HB2.out⟩

set_option maxRecDepth 100000 in
theorem lifted (os : Os) (started : os.Started) (H : Type) (enc : TypeId × Value → H) :
    ReturnsInHanded {} Try.checked os 6 .any (Rows.diskApartSpec.pre6 enc Try.prog Try.f6 Rows.diskApartRow.domain false) (Rows.diskApartSpec.post enc Try.prog Try.f6 false true false false) := by
  refine returnsInHanded_of_change_sized (C := Try.checked) own started (by kernel_rfl) Try.func6
    (ChangeSpec.witness6 (enc := enc) (C := Try.checked) false ⟨#[], #[.agg #[.int .i64 0, .slice none 0 0, .slice none 0 0, .bool false], .slice none 0 0, .int .i64 0], []⟩ 8 (by kernel_rfl) (by kernel_rfl) (by kernel_rfl) (by kernel_rfl)) ?_
  intro W base args ds gs before hval0 hW hcnd hsz0 _
  have hval : ∀ (j : Nat) t v, Try.f6.params[j]? = some t → args[j]? = some v → Value.okWide Try.prog W .any base t v := hval0
  have hsz : (DataW.weightsEach Try.prog (Try.f6.params.toList ++ Rows.diskApartSpec.plain.varTypes Try.prog) (ds ++ gs)).all (· ≤ reachBytes) = true := hsz0
  have hW' := hW
  obtain ⟨p, q, hA0, hV, rfl, hfz, hnd⟩ := hW
  have hA : DataW.TrodAll enc Try.prog W 0 (fun _ => true) true Try.f6.params.toList args.toList ds p := hA0
  rw [Try.params6] at hA hval hsz
  obtain ⟨v0, vs0, d0, ds0, p0, q0, hargs, rfl, rfl, h0, r0⟩ := trodAll_cons hA
  obtain ⟨v1, vs1, d1, ds1, p1, q1, rfl, rfl, rfl, h1, r1⟩ := trodAll_cons r0
  obtain ⟨v2, vs2, d2, ds2, p2, q2, rfl, rfl, rfl, h2, r2⟩ := trodAll_cons r1
  obtain ⟨rfl, rfl, rfl⟩ := trodAll_nil r2
  obtain rfl : args = #[v0, v1, v2] := by cases args; simp_all
  obtain ⟨rfl, rfl⟩ := trodVars_none hV
  have lt0 : ∀ x ∈ p0, x.block < W.heap.size := by obtain ⟨m, hm⟩ := h0; exact DataW.trod_lt m _ _ _ hm
  have lt1 : ∀ x ∈ p1, x.block < W.heap.size := by obtain ⟨m, hm⟩ := h1; exact DataW.trod_lt m _ _ _ hm
  have lt2 : ∀ x ∈ p2, x.block < W.heap.size := by obtain ⟨m, hm⟩ := h2; exact DataW.trod_lt m _ _ _ hm
  obtain ⟨d, kA, kc, wA, wc, rfl, hat⟩ := open_disk (hval 0 25 v0 rfl rfl) h0
  obtain ⟨KA, KC, ks, rfl, hk, hkc⟩ := open_keep (hval 1 26 v1 rfl rfl) h1
  obtain ⟨n2, rfl, _⟩ := open_int Try.underlying3 (hval 2 3 v2 rfl rfl) h2
  have hKC : KC ≤ 9223372036854775807 := by
    have := hkc (fun m hm => by
      have hx := List.all_eq_true.1 hsz m (DataW.weights_mem_each (j := 1) (t := 26) rfl rfl _ hm)
      simpa using hx)
    omega
  clear hA0 hval0 hsz0
  refine (walk d ks n2 kA kc wA wc KA KC W hat hk hKC).mono fun e W' ⟨he, bel⟩ => ?_
  subst he
  exact ⟨_, rfl, _, _, _, [], _, [], hW', trodAll_mk1 (shut_bool Try.underlying4 _), (trodAll_cons_mk (Below.trod laidOut (by kernel_rfl) (of_decide_eq_true (by kernel_rfl)) h0 bel lt0) (trodAll_cons_mk (Below.trod laidOut (by kernel_rfl) (of_decide_eq_true (by kernel_rfl)) h1 bel lt1) (trodAll_cons_mk (Below.trod laidOut (by kernel_rfl) (of_decide_eq_true (by kernel_rfl)) h2 bel lt2) trodAll_mk0))), rfl, bel.frame _, fun h => by cases h⟩

theorem over : Rows.diskApartRow.holds Try.pinned (OpenSpec.ofChange Rows.diskApartSpec) :=
  OpenClaim.holds_of_wide 6 Try.f6 rfl rfl rfl rfl rfl rfl rfl ⟨rfl, rfl, rfl, rfl, rfl⟩ rfl rfl rfl rfl rfl (by kernel_rfl) Try.func6 (by kernel_rfl)
    (of_decide_eq_true (by kernel_rfl)) (by unfold Func.isWrapper; first | (rw [if_pos (by decide +kernel)]; kernel_rfl) | (rw [if_neg (by decide +kernel)]; exact ⟨rfl, rfl⟩))
    (fun os started H enc _ => lifted os started H enc)

theorem proved : Rows.DiskApartSaid := over
#print axioms proved
end Go.Proofs.Ytpkoonokagchgaa.diskApart
