/-
  DiskKeeps returns true for every disk and every row of numbers: what was synced is there behind each crash; with all kept a crash leaves the image; a crash stays one.
  Conditions: none (every input).
-/
import Derived.Test.YtpkoonokagchgaaKeepLists
namespace Go.Proofs.Ytpkoonokagchgaa.diskKeeps
open Go.ChangeShapes Go.WideShapes Go.ChangeAt Go.RowKit Go.Joins

/-- The rows that the law's last lines read. -/
structure Rows (W : World) (d : Dk) (kA : Option Addr) (kc : Nat) (wA : Option Addr) (wc : Nat) (A7 : Option Addr) (c7 : Nat) (A11 : Option Addr) (c11 : Nat) (A12 : Option Addr) (c12 : Nat) (L : List ByteArray) (A13 : Option Addr) (c13 : Nat) (C : List ByteArray) (AA : Option Addr) (CA : Nat) (al : List Int) : Prop where
  d : At W d kA kc wA wc
  r7 : RowT W A7 c7 L
  r11 : RowT W A11 c11 L
  r12 : RowT W A12 c12 L
  r13 : RowT W A13 c13 C
  al : RowI W AA CA al
theorem Rows.below {W W' : World} {d : Dk} {kA : Option Addr} {kc : Nat} {wA : Option Addr} {wc : Nat} {A7 : Option Addr} {c7 : Nat} {A11 : Option Addr} {c11 : Nat} {A12 : Option Addr} {c12 : Nat} {L : List ByteArray} {A13 : Option Addr} {c13 : Nat} {C : List ByteArray} {AA : Option Addr} {CA : Nat} {al : List Int}
    (h : Rows W d kA kc wA wc A7 c7 A11 c11 A12 c12 L A13 c13 C AA CA al) (hb : Below W.heap.size W W') : Rows W' d kA kc wA wc A7 c7 A11 c11 A12 c12 L A13 c13 C AA CA al :=
  ⟨h.d.below hb, h.r7.below hb, h.r11.below hb, h.r12.below hb, h.r13.below hb, h.al.below hb⟩

set_option maxHeartbeats 2000000 in
set_option maxRecDepth 100000 in
theorem walk (d : Dk) (ks : List Int) (kA : Option Addr) (kc : Nat) (wA : Option Addr) (wc : Nat) (KA : Option Addr) (KC : Nat) (w : World) (hA : At w d kA kc wA wc) (hK : RowI w KA KC ks) (hKC : KC ≤ 9223372036854775807) :
    Calls Try.prog 5 #[dval d kA kc wA wc, .slice KA ks.length KC] w fun e w' => e = .returned (.bool true) ∧ Below w.heap.size w w' := by
  obtain ⟨F, hF⟩ := few_is d
  obtain ⟨n, hn⟩ : ∃ n, d.ks.length = n := ⟨_, rfl⟩
  obtain ⟨m, hm⟩ : ∃ m, d.ws.length = m := ⟨_, rfl⟩
  obtain ⟨q, hq⟩ : ∃ q, ks.length = q := ⟨_, rfl⟩
  obtain ⟨sz, hs⟩ : ∃ sz, d.sz = sz := ⟨_, rfl⟩
  obtain ⟨off, ho⟩ : ∃ off, d.off = off := ⟨_, rfl⟩
  have HFEW : Hid (∀ W, Below w.heap.size w W → Calls Try.prog 14 #[.agg #[.int .i64 sz, .slice kA n kc, .slice wA m wc, .bool off]] W fun e w' => e = .returned (.bool F) ∧ Below W.heap.size W w') := Lib.hid fun W hW => by
    subst hn hm hs ho
    exact few_any d F hF kA kc wA wc W (hA.below hW)
  have HD2 : Hid (DB (w.alloc (.cells #[.int .i64 sz, .slice kA n kc, .slice wA m wc, .bool off] 25)) w.heap.size d sz n m kA kc wA wc off) := Lib.hid (DB.new hA sz n m off)
  have HB0 : Hid (Below w.heap.size w (w.alloc (.cells #[.int .i64 sz, .slice kA n kc, .slice wA m wc, .bool off] 25))) := Lib.hid (alloc_below w _)
  unfold dval
  rw [hn, hm, hq, hs, ho]
  by_cases hT : F = true ∧ off = false
  · obtain ⟨hT1, hT2⟩ := hT
    obtain ⟨f1, f2, hd⟩ := hF.1 hT1
    subst hT1
    subst hT2
    have hn40 : n ≤ 40 := by omega
    have hm40 : m ≤ 40 := by omega
    have hli : (imageD d).length = n := by rw [imageD_length]; exact hn
    have hlc : (crashD d ks).length = n := by rw [crashD_length]; exact hn
    obtain ⟨al, hal⟩ : ∃ al, List.replicate m (1099511627776 : Int) = al := ⟨_, rfl⟩
    have hall : al.length = m := by rw [← hal]; simp
    have HSY : Hid (∀ W, At W d kA kc wA wc → Calls Try.prog 20 #[.agg #[.int .i64 sz, .slice kA n kc, .slice wA m wc, .bool false]] W fun e w' => ∃ A' c', e = .returned (.tuple #[.agg #[.int .i64 sz, .slice A' n c', .slice none 0 0, .bool false], .int .i64 0]) ∧ RowT w' A' c' (imageD d) ∧ Below W.heap.size W w') := Lib.hid fun W h => by
      have := sync_on d hd kA kc wA wc W h (by omega) ho
      unfold dval at this
      rw [ho] at this
      subst hn hm hs
      exact this.mono fun e w' ⟨A', c', h1, h2, _, h3⟩ => ⟨A', c', h1, h2, h3⟩
    have HCA : Hid (∀ W A c, RowT W A c (imageD d) → RowI W KA KC ks → Calls Try.prog 22 #[.agg #[.int .i64 sz, .slice A n c, .slice none 0 0, .bool false], .slice KA q KC] W fun e w' => ∃ A' c', e = .returned (.agg #[.int .i64 sz, .slice A' n c', .slice none 0 0, .bool false]) ∧ RowT w' A' c' (imageD d) ∧ Below W.heap.size W w') := Lib.hid fun W A c h hk => by
      have := crash_any (wipe d (imageD d)) hd.image ks A c none 0 KA KC W (at_of h (RowW.nil W)) (by show 0 ≤ 1000000; decide) hk hKC
      have hlw : (wipe d (imageD d)).ks.length = n := hli
      unfold dval at this
      rw [hlw, crash_wiped] at this
      subst hs hq
      exact this.mono fun e w' ⟨A', c', h1, h2, _, h3⟩ => ⟨A', c', h1, h2, h3⟩
    have HCB : Hid (∀ W AA CA, At W d kA kc wA wc → RowI W AA CA al → CA ≤ 9223372036854775807 → Calls Try.prog 22 #[.agg #[.int .i64 sz, .slice kA n kc, .slice wA m wc, .bool false], .slice AA m CA] W fun e w' => ∃ A' c', e = .returned (.agg #[.int .i64 sz, .slice A' n c', .slice none 0 0, .bool false]) ∧ RowT w' A' c' (imageD d) ∧ Below W.heap.size W w') := Lib.hid fun W AA CA h hk hc => by
      have := crash_any d hd al kA kc wA wc AA CA W h (by omega) hk hc
      have hcr : crashD d al = imageD d := by
        rw [← hal, ← hm]
        exact crash_all hd
      unfold dval at this
      rw [ho, hcr, hall] at this
      subst hn hm hs
      exact this.mono fun e w' ⟨A', c', h1, h2, _, h3⟩ => ⟨A', c', h1, h2, h3⟩
    have HCC : Hid (∀ W, At W d kA kc wA wc → RowI W KA KC ks → Calls Try.prog 22 #[.agg #[.int .i64 sz, .slice kA n kc, .slice wA m wc, .bool false], .slice KA q KC] W fun e w' => ∃ A' c', e = .returned (.agg #[.int .i64 sz, .slice A' n c', .slice none 0 0, .bool false]) ∧ RowT w' A' c' (crashD d ks) ∧ Below W.heap.size W w') := Lib.hid fun W h hk => by
      have := crash_any d hd ks kA kc wA wc KA KC W h (by omega) hk hKC
      unfold dval at this
      rw [ho] at this
      subst hn hm hs hq
      exact this.mono fun e w' ⟨A', c', h1, h2, _, h3⟩ => ⟨A', c', h1, h2, h3⟩
    have HCD : Hid (∀ W A c AA CA, RowT W A c (crashD d ks) → RowI W AA CA al → CA ≤ 9223372036854775807 → Calls Try.prog 22 #[.agg #[.int .i64 sz, .slice A n c, .slice none 0 0, .bool false], .slice AA m CA] W fun e w' => ∃ A' c', e = .returned (.agg #[.int .i64 sz, .slice A' n c', .slice none 0 0, .bool false]) ∧ RowT w' A' c' (crashD d ks) ∧ Below W.heap.size W w') := Lib.hid fun W A c AA CA h hk hc => by
      have := crash_any (wipe d (crashD d ks)) (hd.crash ks) al A c none 0 AA CA W (at_of h (RowW.nil W)) (by show 0 ≤ 1000000; decide) hk hc
      have hlw : (wipe d (crashD d ks)).ks.length = n := hlc
      unfold dval at this
      rw [hlw, crash_wiped, hall] at this
      subst hs
      exact this.mono fun e w' ⟨A', c', h1, h2, _, h3⟩ => ⟨A', c', h1, h2, h3⟩
    have HIM : Hid (∀ W, At W d kA kc wA wc → Calls Try.prog 27 #[.agg #[.int .i64 sz, .slice kA n kc, .slice wA m wc, .bool false]] W fun e w' => ∃ A' c', e = .returned (.slice A' n c') ∧ RowT w' A' c' (imageD d) ∧ Below W.heap.size W w') := Lib.hid fun W h => by
      have := image_any d hd kA kc wA wc W h (by omega)
      unfold dval at this
      rw [ho] at this
      subst hn hm hs
      exact this.mono fun e w' ⟨A', c', h1, h2, _, h3⟩ => ⟨A', c', h1, h2, h3⟩
    have HIS : Hid (∀ W A c, RowT W A c (imageD d) → Calls Try.prog 27 #[.agg #[.int .i64 sz, .slice A n c, .slice none 0 0, .bool false]] W fun e w' => ∃ A' c', e = .returned (.slice A' n c') ∧ RowT w' A' c' (imageD d) ∧ Below W.heap.size W w') := Lib.hid fun W A c h => by
      have := image_any (wipe d (imageD d)) hd.image A c none 0 W (at_of h (RowW.nil W)) (by show 0 ≤ 1000000; decide)
      have hlw : (wipe d (imageD d)).ks.length = n := hli
      unfold dval at this
      rw [hlw, image_wiped] at this
      subst hs
      exact this.mono fun e w' ⟨A', c', h1, h2, _, h3⟩ => ⟨A', c', h1, h2, h3⟩
    have HST : Hid (∀ W A c B e0, RowT W A c (imageD d) → RowT W B e0 (imageD d) → Calls Try.prog 26 #[.slice A n c, .slice B n e0] W fun e w' => e = .returned (.bool true) ∧ Below W.heap.size W w') := Lib.hid fun W A c B e0 h1 h2 => by
      have := strings_yes A B c e0 (imageD d) W h1 h2 (by omega)
      rw [hli] at this
      exact this
    have HSM : Hid (∀ W A c B e0, RowT W A c (crashD d ks) → RowT W B e0 (crashD d ks) → Calls Try.prog 13 #[.agg #[.int .i64 sz, .slice A n c, .slice none 0 0, .bool false], .agg #[.int .i64 sz, .slice B n e0, .slice none 0 0, .bool false]] W fun e w' => e = .returned (.bool true) ∧ Below W.heap.size W w') := Lib.hid fun W A c B e0 h1 h2 => by
      have hlw : (wipe d (crashD d ks)).ks.length = n := hlc
      have := same_yes (wipe d (crashD d ks)) A c none 0 B e0 none 0 W (at_of h1 (RowW.nil W)) (at_of h2 (RowW.nil W)) (by omega) (by show 0 ≤ 1000000; decide)
      unfold dval at this
      rw [hlw] at this
      subst hs
      exact this
    have HRI : Hid (∀ W A c, RowT W A c (crashD d ks) → Calls Try.prog 29 #[.agg #[.int .i64 sz, .slice A n c, .slice none 0 0, .bool false]] W fun e w' => e = .returned (.bool true) ∧ Below W.heap.size W w') := Lib.hid fun W A c h => by
      have hlw : (wipe d (crashD d ks)).ks.length = n := hlc
      have := refRight_any (wipe d (crashD d ks)) true (by simp [hd.crash ks]) A c none 0 W (at_of h (RowW.nil W)) (by show 0 ≤ _; decide)
      unfold dval at this
      rw [hlw] at this
      subst hs
      exact this
    have HAL : Hid (List.replicate m (Value.int .i64 1099511627776) = icells al) := Lib.hid (by rw [← hal]; exact rep_icells _ _)
    have HLL := Lib.hid hall
    have HK : Hid (∀ W, Below w.heap.size w W → RowI W KA KC ks) := Lib.hid fun W hW => hK.below hW
    generalize imageD d = L at *
    generalize crashD d ks = C at *
    obtain ⟨i0, hi, hi0, hi1, hi2⟩ := info3
    have HI := Lib.hid hi
    have HI0 := Lib.hid hi0
    have HI1 := Lib.hid hi1
    have HI2 := Lib.hid hi2
    clear hF hn hm hs ho hq f1 f2 hd hA hK hKC hli hlc hal hall hn40 hi hi0 hi1 hi2
    go_enter Try.func5, Try.ntmps5
    go_wp2_with fail
    refine (shown_any _).mono ?_
    rintro e w1 ⟨rfl, hb1⟩
    have HB1 := Lib.hid (below_trans HB0.out hb1)
    have HE1 := Lib.hid (HD2.out.below hb1)
    obtain ⟨z0, z1, z2, z3⟩ := HE1.out.four
    clear hb1 HD2 HB0
    go_wp2_with fail
    refine (HFEW.out _ HB1.out).mono ?_
    rintro e w2 ⟨rfl, hb2⟩
    have HB2 := Lib.hid (below_trans HB1.out hb2)
    have HE2 := Lib.hid (HE1.out.below hb2)
    clear z0 z1 z2 z3
    obtain ⟨z0, z1, z2, z3⟩ := HE2.out.four
    clear hb2 HE1 HB1 HFEW
    go_wp2_with fail
    refine (HSY.out _ HE2.out.a).mono ?_
    rintro e w3 ⟨A7, c7, rfl, hr7, hb3⟩
    have H7 := Lib.hid (BR.new hr7 sz n)
    have HE3 := Lib.hid ((HE2.out.below hb3).below (alloc_below w3 (.cells #[.int .i64 sz, .slice A7 n c7, .slice none 0 0, .bool false] 25)))
    have HB3 := Lib.hid (below_trans (below_trans HB2.out hb3) (alloc_below w3 (.cells #[.int .i64 sz, .slice A7 n c7, .slice none 0 0, .bool false] 25)))
    clear hr7 hb3 HE2 HB2 z0 z1 z2 z3 HSY
    obtain ⟨z0, z1, z2, z3⟩ := HE3.out.four
    go_upto_region 6 with fail
    obtain ⟨V, hV⟩ : ∃ V, w3.alloc (.cells #[.int .i64 sz, .slice A7 n c7, .slice none 0 0, .bool false] 25) = V := ⟨_, rfl⟩
    obtain ⟨r7, hr7⟩ : ∃ r7, w3.heap.size = r7 := ⟨_, rfl⟩
    rw [hV, hr7] at H7
    rw [hV] at HE3 HB3 z0 z1 z2 z3 ⊢
    rw [hr7]
    clear hV hr7
    have hvs := HB3.out.size
    go_wp2_with fail
    go_loopw [9, 10] (fun v i wr => ∃ k : Nat, k ≤ m ∧ i = .int .i64 k ∧ Hid (wr.ownsRow V.heap.size 3 1 v k (List.replicate k (.int .i64 1099511627776))) ∧ Below V.heap.size V wr) (fun _ i _ => m - (intOf i).toNat)
    case atStart => exact ⟨0, Nat.zero_le _, rfl, Lib.hid (World.ownsRow_nil _ _ _ _), Below.refl _ _⟩
    case round =>
      obtain ⟨k, hk, rfl, hown, hB⟩ := hrel
      have y2 := ((HE3.out.below hB).x.cell 2 (v := .slice wA m wc) rfl)
      by_cases hlt : k < m
      · have lt3 := hown.out.lt
        have hvw := hB.size
        go_wp2_with (at_builtin; refine wpList_append_own _ rfl _ _ 26 rfl V.heap.size 3 i0 (.int .i64 0) 1 8 Try.underlying26 HI.out HI0.out HI1.out HI2.out rfl (by decide) _ k _ rfl (hown.out.alloc _) ⟨wr.heap.size, 0, none⟩ 1 1 [.int .i64 1099511627776] rfl rfl (cells_new wr #[.int .i64 1099511627776] 3) (by simp [Value.oneCell']) (by unfold maxLen; omega) (by omega) (by simp; omega) ?_; intro v' w4 hown' hgrow _)
        go_roundw
        case rel =>
          refine ⟨k + 1, by omega, by go_num, Lib.hid ?_, (hB.alloc hB.size _).grown hgrow (by simp; omega) (fun g hg => (lt3 g hg).1)⟩
          rw [List.replicate_succ']
          exact hown'
        case measure => simp [intOf]; omega
      · obtain rfl : m = k := by omega
        have hown2 := hown.out
        rw [HAL.out] at hown2
        obtain ⟨AA, CA, rfl⟩ := own_slice hown2
        obtain ⟨hia, hca⟩ := rowI_own hown2 HLL.out.symm
        have HIA := Lib.hid hia
        have HCA2 := Lib.hid hca
        have HE4 := Lib.hid (HE3.out.below hB)
        have H74 := Lib.hid (H7.out.below hB)
        have HB4 := Lib.hid (below_trans HB3.out hB)
        clear hown hown2 hia hca HE3 H7 HB3 hB z0 z1 z2 z3 y2 hvs HI HI0 HI1 HI2
        obtain ⟨z0, z1, z2, z3⟩ := H74.out.x.four
        obtain ⟨y0, y1, y2, y3⟩ := HE4.out.four
        go_wp2_with fail
        refine (HCA.out _ _ _ H74.out.t (HK.out _ HB4.out)).mono ?_
        rintro e w5 ⟨A11, c11, rfl, hr11, hb5⟩
        have H11 := Lib.hid (BR.new hr11 sz n)
        have HO5 := Lib.hid (below_trans hb5 (alloc_below w5 (.cells #[.int .i64 sz, .slice A11 n c11, .slice none 0 0, .bool false] 25)))
        have HE5 := Lib.hid (HE4.out.below HO5.out)
        have H75 := Lib.hid (H74.out.below HO5.out)
        have HIA5 := Lib.hid (HIA.out.below HO5.out)
        have HB5 := Lib.hid (below_trans HB4.out HO5.out)
        clear hr11 hb5 HE4 H74 HIA HB4 HO5 z0 z1 z2 z3 y0 y1 y2 y3 HCA
        obtain ⟨y0, y1, y2, y3⟩ := HE5.out.four
        go_wp2_with fail
        refine (HCB.out _ _ _ HE5.out.a HIA5.out HCA2.out).mono ?_
        rintro e w6 ⟨A12, c12, rfl, hr12, hb6⟩
        have H12 := Lib.hid (BR.new hr12 sz n)
        have HO6 := Lib.hid (below_trans hb6 (alloc_below w6 (.cells #[.int .i64 sz, .slice A12 n c12, .slice none 0 0, .bool false] 25)))
        have HE6 := Lib.hid (HE5.out.below HO6.out)
        have H76 := Lib.hid (H75.out.below HO6.out)
        have H116 := Lib.hid (H11.out.below HO6.out)
        have HIA6 := Lib.hid (HIA5.out.below HO6.out)
        have HB6 := Lib.hid (below_trans HB5.out HO6.out)
        clear hr12 hb6 HE5 H75 H11 HIA5 HB5 HO6 y0 y1 y2 y3 HCB
        obtain ⟨y0, y1, y2, y3⟩ := HE6.out.four
        go_wp2_with fail
        refine (HCC.out _ HE6.out.a (HK.out _ HB6.out)).mono ?_
        rintro e w7 ⟨A13, c13, rfl, hr13, hb7⟩
        have H13 := Lib.hid (BR.new hr13 sz n)
        have HO7 := Lib.hid (below_trans hb7 (alloc_below w7 (.cells #[.int .i64 sz, .slice A13 n c13, .slice none 0 0, .bool false] 25)))
        have HE7 := Lib.hid (HE6.out.below HO7.out)
        have H77 := Lib.hid (H76.out.below HO7.out)
        have H117 := Lib.hid (H116.out.below HO7.out)
        have H127 := Lib.hid (H12.out.below HO7.out)
        have HIA7 := Lib.hid (HIA6.out.below HO7.out)
        have HB7 := Lib.hid (below_trans HB6.out HO7.out)
        clear hr13 hb7 HE6 H76 H116 H12 HIA6 HB6 HO7 y0 y1 y2 y3 HCC HK
        go_upto_region 14 with fail
        obtain ⟨U, hU⟩ : ∃ U, w7.alloc (.cells #[.int .i64 sz, .slice A13 n c13, .slice none 0 0, .bool false] 25) = U := ⟨_, rfl⟩
        rw [hU] at H13 HE7 H77 H117 H127 HIA7 HB7 ⊢
        clear hU
        generalize w7.heap.size = r13 at *
        generalize w6.heap.size = r12 at *
        generalize w5.heap.size = r11 at *
        have HS0 : Hid (Below w.heap.size w U ∧ FourAt w.heap.size (.int .i64 sz) (.slice kA n kc) (.slice wA m wc) (.bool false) U ∧ FourAt r7 (.int .i64 sz) (.slice A7 n c7) (.slice none 0 0) (.bool false) U ∧ FourAt r11 (.int .i64 sz) (.slice A11 n c11) (.slice none 0 0) (.bool false) U ∧ FourAt r12 (.int .i64 sz) (.slice A12 n c12) (.slice none 0 0) (.bool false) U ∧ FourAt r13 (.int .i64 sz) (.slice A13 n c13) (.slice none 0 0) (.bool false) U ∧ Rows U d kA kc wA wc A7 c7 A11 c11 A12 c12 L A13 c13 C AA CA al) := Lib.hid ⟨HB7.out, HE7.out.four, H77.out.x.four, H117.out.x.four, H127.out.x.four, H13.out.x.four, HE7.out.a, H77.out.t, H117.out.t, H127.out.t, H13.out.t, HIA7.out⟩
        have NX : Hid (∀ W W', (fun W => Below w.heap.size w W ∧ FourAt w.heap.size (.int .i64 sz) (.slice kA n kc) (.slice wA m wc) (.bool false) W ∧ FourAt r7 (.int .i64 sz) (.slice A7 n c7) (.slice none 0 0) (.bool false) W ∧ FourAt r11 (.int .i64 sz) (.slice A11 n c11) (.slice none 0 0) (.bool false) W ∧ FourAt r12 (.int .i64 sz) (.slice A12 n c12) (.slice none 0 0) (.bool false) W ∧ FourAt r13 (.int .i64 sz) (.slice A13 n c13) (.slice none 0 0) (.bool false) W ∧ Rows W d kA kc wA wc A7 c7 A11 c11 A12 c12 L A13 c13 C AA CA al) W → Below W.heap.size W W' → (fun W => Below w.heap.size w W ∧ FourAt w.heap.size (.int .i64 sz) (.slice kA n kc) (.slice wA m wc) (.bool false) W ∧ FourAt r7 (.int .i64 sz) (.slice A7 n c7) (.slice none 0 0) (.bool false) W ∧ FourAt r11 (.int .i64 sz) (.slice A11 n c11) (.slice none 0 0) (.bool false) W ∧ FourAt r12 (.int .i64 sz) (.slice A12 n c12) (.slice none 0 0) (.bool false) W ∧ FourAt r13 (.int .i64 sz) (.slice A13 n c13) (.slice none 0 0) (.bool false) W ∧ Rows W d kA kc wA wc A7 c7 A11 c11 A12 c12 L A13 c13 C AA CA al) W') := Lib.hid fun W W' h hb =>
          ⟨below_trans h.1 hb, four_next h.2.1 hb, four_next h.2.2.1 hb, four_next h.2.2.2.1 hb, four_next h.2.2.2.2.1 hb, four_next h.2.2.2.2.2.1 hb, h.2.2.2.2.2.2.below hb⟩
        have H8d := Lib.hid (NX.out _ _ HS0.out (drew_below U))
        have C27 : Hid (∀ W, (fun W => Below w.heap.size w W ∧ FourAt w.heap.size (.int .i64 sz) (.slice kA n kc) (.slice wA m wc) (.bool false) W ∧ FourAt r7 (.int .i64 sz) (.slice A7 n c7) (.slice none 0 0) (.bool false) W ∧ FourAt r11 (.int .i64 sz) (.slice A11 n c11) (.slice none 0 0) (.bool false) W ∧ FourAt r12 (.int .i64 sz) (.slice A12 n c12) (.slice none 0 0) (.bool false) W ∧ FourAt r13 (.int .i64 sz) (.slice A13 n c13) (.slice none 0 0) (.bool false) W ∧ Rows W d kA kc wA wc A7 c7 A11 c11 A12 c12 L A13 c13 C AA CA al) W → Calls Try.prog 27 #[.agg #[.int .i64 sz, .slice kA n kc, .slice wA m wc, .bool false]] W fun e w' => ∃ A' c', e = .returned (.slice A' n c') ∧ RowT w' A' c' L ∧ Below W.heap.size W w') := Lib.hid fun W h => HIM.out W h.2.2.2.2.2.2.d
        have C27s : Hid (∀ W, (fun W => Below w.heap.size w W ∧ FourAt w.heap.size (.int .i64 sz) (.slice kA n kc) (.slice wA m wc) (.bool false) W ∧ FourAt r7 (.int .i64 sz) (.slice A7 n c7) (.slice none 0 0) (.bool false) W ∧ FourAt r11 (.int .i64 sz) (.slice A11 n c11) (.slice none 0 0) (.bool false) W ∧ FourAt r12 (.int .i64 sz) (.slice A12 n c12) (.slice none 0 0) (.bool false) W ∧ FourAt r13 (.int .i64 sz) (.slice A13 n c13) (.slice none 0 0) (.bool false) W ∧ Rows W d kA kc wA wc A7 c7 A11 c11 A12 c12 L A13 c13 C AA CA al) W → Calls Try.prog 27 #[.agg #[.int .i64 sz, .slice A7 n c7, .slice none 0 0, .bool false]] W fun e w' => ∃ A' c', e = .returned (.slice A' n c') ∧ RowT w' A' c' L ∧ Below W.heap.size W w') := Lib.hid fun W h => HIS.out W A7 c7 h.2.2.2.2.2.2.r7
        have C26a : Hid (∀ W B e0, (fun W => Below w.heap.size w W ∧ FourAt w.heap.size (.int .i64 sz) (.slice kA n kc) (.slice wA m wc) (.bool false) W ∧ FourAt r7 (.int .i64 sz) (.slice A7 n c7) (.slice none 0 0) (.bool false) W ∧ FourAt r11 (.int .i64 sz) (.slice A11 n c11) (.slice none 0 0) (.bool false) W ∧ FourAt r12 (.int .i64 sz) (.slice A12 n c12) (.slice none 0 0) (.bool false) W ∧ FourAt r13 (.int .i64 sz) (.slice A13 n c13) (.slice none 0 0) (.bool false) W ∧ Rows W d kA kc wA wc A7 c7 A11 c11 A12 c12 L A13 c13 C AA CA al) W → RowT W B e0 L → Calls Try.prog 26 #[.slice A11 n c11, .slice B n e0] W fun e w' => e = .returned (.bool true) ∧ Below W.heap.size W w') := Lib.hid fun W B e0 h hb => HST.out W A11 c11 B e0 h.2.2.2.2.2.2.r11 hb
        have C26b : Hid (∀ W B e0, (fun W => Below w.heap.size w W ∧ FourAt w.heap.size (.int .i64 sz) (.slice kA n kc) (.slice wA m wc) (.bool false) W ∧ FourAt r7 (.int .i64 sz) (.slice A7 n c7) (.slice none 0 0) (.bool false) W ∧ FourAt r11 (.int .i64 sz) (.slice A11 n c11) (.slice none 0 0) (.bool false) W ∧ FourAt r12 (.int .i64 sz) (.slice A12 n c12) (.slice none 0 0) (.bool false) W ∧ FourAt r13 (.int .i64 sz) (.slice A13 n c13) (.slice none 0 0) (.bool false) W ∧ Rows W d kA kc wA wc A7 c7 A11 c11 A12 c12 L A13 c13 C AA CA al) W → RowT W B e0 L → Calls Try.prog 26 #[.slice A12 n c12, .slice B n e0] W fun e w' => e = .returned (.bool true) ∧ Below W.heap.size W w') := Lib.hid fun W B e0 h hb => HST.out W A12 c12 B e0 h.2.2.2.2.2.2.r12 hb
        have C22 : Hid (∀ W, (fun W => Below w.heap.size w W ∧ FourAt w.heap.size (.int .i64 sz) (.slice kA n kc) (.slice wA m wc) (.bool false) W ∧ FourAt r7 (.int .i64 sz) (.slice A7 n c7) (.slice none 0 0) (.bool false) W ∧ FourAt r11 (.int .i64 sz) (.slice A11 n c11) (.slice none 0 0) (.bool false) W ∧ FourAt r12 (.int .i64 sz) (.slice A12 n c12) (.slice none 0 0) (.bool false) W ∧ FourAt r13 (.int .i64 sz) (.slice A13 n c13) (.slice none 0 0) (.bool false) W ∧ Rows W d kA kc wA wc A7 c7 A11 c11 A12 c12 L A13 c13 C AA CA al) W → Calls Try.prog 22 #[.agg #[.int .i64 sz, .slice A13 n c13, .slice none 0 0, .bool false], .slice AA m CA] W fun e w' => ∃ A' c', e = .returned (.agg #[.int .i64 sz, .slice A' n c', .slice none 0 0, .bool false]) ∧ RowT w' A' c' C ∧ Below W.heap.size W w') := Lib.hid fun W h => HCD.out W A13 c13 AA CA h.2.2.2.2.2.2.r13 h.2.2.2.2.2.2.al HCA2.out
        have C13 : Hid (∀ W B e0, (fun W => Below w.heap.size w W ∧ FourAt w.heap.size (.int .i64 sz) (.slice kA n kc) (.slice wA m wc) (.bool false) W ∧ FourAt r7 (.int .i64 sz) (.slice A7 n c7) (.slice none 0 0) (.bool false) W ∧ FourAt r11 (.int .i64 sz) (.slice A11 n c11) (.slice none 0 0) (.bool false) W ∧ FourAt r12 (.int .i64 sz) (.slice A12 n c12) (.slice none 0 0) (.bool false) W ∧ FourAt r13 (.int .i64 sz) (.slice A13 n c13) (.slice none 0 0) (.bool false) W ∧ Rows W d kA kc wA wc A7 c7 A11 c11 A12 c12 L A13 c13 C AA CA al) W → RowT W B e0 C → Calls Try.prog 13 #[.agg #[.int .i64 sz, .slice B n e0, .slice none 0 0, .bool false], .agg #[.int .i64 sz, .slice A13 n c13, .slice none 0 0, .bool false]] W fun e w' => e = .returned (.bool true) ∧ Below W.heap.size W w') := Lib.hid fun W B e0 h hb => HSM.out W B e0 A13 c13 hb h.2.2.2.2.2.2.r13
        have C29 : Hid (∀ W, (fun W => Below w.heap.size w W ∧ FourAt w.heap.size (.int .i64 sz) (.slice kA n kc) (.slice wA m wc) (.bool false) W ∧ FourAt r7 (.int .i64 sz) (.slice A7 n c7) (.slice none 0 0) (.bool false) W ∧ FourAt r11 (.int .i64 sz) (.slice A11 n c11) (.slice none 0 0) (.bool false) W ∧ FourAt r12 (.int .i64 sz) (.slice A12 n c12) (.slice none 0 0) (.bool false) W ∧ FourAt r13 (.int .i64 sz) (.slice A13 n c13) (.slice none 0 0) (.bool false) W ∧ Rows W d kA kc wA wc A7 c7 A11 c11 A12 c12 L A13 c13 C AA CA al) W → Calls Try.prog 29 #[.agg #[.int .i64 sz, .slice A13 n c13, .slice none 0 0, .bool false]] W fun e w' => e = .returned (.bool true) ∧ Below W.heap.size W w') := Lib.hid fun W h => HRI.out W A13 c13 h.2.2.2.2.2.2.r13
        clear H13 HE7 H77 H117 H127 HIA7 HB7 HIM HIS HCD HSM HRI HCA2
        go_region_held3 (fun W => Below w.heap.size w W ∧ FourAt w.heap.size (.int .i64 sz) (.slice kA n kc) (.slice wA m wc) (.bool false) W ∧ FourAt r7 (.int .i64 sz) (.slice A7 n c7) (.slice none 0 0) (.bool false) W ∧ FourAt r11 (.int .i64 sz) (.slice A11 n c11) (.slice none 0 0) (.bool false) W ∧ FourAt r12 (.int .i64 sz) (.slice A12 n c12) (.slice none 0 0) (.bool false) W ∧ FourAt r13 (.int .i64 sz) (.slice A13 n c13) (.slice none 0 0) (.bool false) W ∧ Rows W d kA kc wA wc A7 c7 A11 c11 A12 c12 L A13 c13 C AA CA al)
          (first
            | assumption
            | exact NX.out _ _ (by assumption) (by assumption)
            | exact H8d.out
            | exact HS0.out)
          (first
            | (go_at_call 27; (with_reducible refine (C27.out _ (by first | assumption | exact H8d.out)).mono ?_); rintro e w' ⟨A', c', rfl, hr, hb'⟩)
            | (go_at_call 26; (with_reducible refine (C26a.out _ _ _ (by assumption) (by assumption)).mono ?_); rintro e w' ⟨rfl, hb'⟩)
            | (go_at_call 26; (with_reducible refine (C26b.out _ _ _ (by assumption) (by assumption)).mono ?_); rintro e w' ⟨rfl, hb'⟩)
            | (go_at_call 22; (with_reducible refine (C22.out _ (by assumption)).mono ?_); rintro e w' ⟨A', c', rfl, hr2, hb'⟩)
            | (go_at_call 13; (with_reducible refine (C13.out _ _ _ (by assumption) (by assumption)).mono ?_); rintro e w' ⟨rfl, hb'⟩))
        rename_i hfin
        rename World => Z
        have HZ0 := Lib.hid hfin
        have H9d := Lib.hid (NX.out _ _ HZ0.out (drew_below Z))
        clear hfin H8d HS0 hr hr2
        go_wp2_with fail
        go_region_held3 (fun W => Below w.heap.size w W ∧ FourAt w.heap.size (.int .i64 sz) (.slice kA n kc) (.slice wA m wc) (.bool false) W ∧ FourAt r7 (.int .i64 sz) (.slice A7 n c7) (.slice none 0 0) (.bool false) W ∧ FourAt r11 (.int .i64 sz) (.slice A11 n c11) (.slice none 0 0) (.bool false) W ∧ FourAt r12 (.int .i64 sz) (.slice A12 n c12) (.slice none 0 0) (.bool false) W ∧ FourAt r13 (.int .i64 sz) (.slice A13 n c13) (.slice none 0 0) (.bool false) W ∧ Rows W d kA kc wA wc A7 c7 A11 c11 A12 c12 L A13 c13 C AA CA al)
          (first
            | assumption
            | exact NX.out _ _ (by assumption) (by assumption)
            | exact H9d.out
            | exact HZ0.out)
          (first
            | (go_at_call 29; (with_reducible refine (C29.out _ (by first | assumption | exact H9d.out)).mono ?_); rintro e w' ⟨rfl, hb9⟩)
            | (go_at_call 27; (with_reducible refine (C27s.out _ (by assumption)).mono ?_); rintro e w' ⟨As, cs, rfl, hrs, hbs⟩)
            | (go_at_call 27; (with_reducible refine (C27.out _ (by assumption)).mono ?_); rintro e w' ⟨Ad, cd, rfl, hrd, hbd⟩)
            | (go_at_call 26; (with_reducible refine (HST.out _ _ _ _ _ (hrs.below hbd) hrd).mono ?_); rintro e w' ⟨rfl, hb6⟩))
        go_wp2
        go_ret
        rename_i hfin
        exact ⟨rfl, hfin.1⟩
  · have hz : F = false ∨ off = true := by
      cases F <;> cases off <;> simp_all
    clear hF hT hn hm hs ho hq hA hK hKC
    go_enter Try.func5, Try.ntmps5
    go_wp2_with fail
    refine (shown_any _).mono ?_
    rintro e w1 ⟨rfl, hb1⟩
    have HB1 := Lib.hid (below_trans HB0.out hb1)
    have HE1 := Lib.hid (HD2.out.below hb1)
    obtain ⟨z0, z1, z2, z3⟩ := HE1.out.four
    clear hb1 HD2 HB0
    go_wp2_with fail
    refine (HFEW.out _ HB1.out).mono ?_
    rintro e w2 ⟨rfl, hb2⟩
    have HB2 := Lib.hid (below_trans HB1.out hb2)
    have HE2 := Lib.hid (HE1.out.below hb2)
    clear z0 z1 z2 z3
    obtain ⟨z0, z1, z2, z3⟩ := HE2.out.four
    clear hb2 HE1 HB1 HFEW
    cases F with
    | false =>
      clear hz
      go_wp2
      go_ret
      exact ⟨rfl, HB2.out⟩
    | true =>
      obtain rfl : off = true := by simpa using hz
      clear hz
      go_wp2
      go_ret
      exact ⟨rfl, HB2.out⟩

set_option maxRecDepth 100000 in
theorem lifted (os : Os) (started : os.Started) (H : Type) (enc : TypeId × Value → H) :
    ReturnsInHanded {} Try.checked os 5 .any (Rows.diskKeepsSpec.pre6 enc Try.prog Try.f5 Rows.diskKeepsRow.domain false) (Rows.diskKeepsSpec.post enc Try.prog Try.f5 false true false false) := by
  refine returnsInHanded_of_change_sized (C := Try.checked) own started (by kernel_rfl) Try.func5
    (ChangeSpec.witness6 (enc := enc) (C := Try.checked) false ⟨#[], #[.agg #[.int .i64 0, .slice none 0 0, .slice none 0 0, .bool false], .slice none 0 0], []⟩ 8 (by kernel_rfl) (by kernel_rfl) (by kernel_rfl) (by kernel_rfl)) ?_
  intro W base args ds gs before hval0 hW hcnd hsz0 _
  have hval : ∀ (j : Nat) t v, Try.f5.params[j]? = some t → args[j]? = some v → Value.okWide Try.prog W .any base t v := hval0
  have hsz : (DataW.weightsEach Try.prog (Try.f5.params.toList ++ Rows.diskKeepsSpec.plain.varTypes Try.prog) (ds ++ gs)).all (· ≤ reachBytes) = true := hsz0
  have hW' := hW
  obtain ⟨p, q, hA0, hV, rfl, hfz, hnd⟩ := hW
  have hA : DataW.TrodAll enc Try.prog W 0 (fun _ => true) true Try.f5.params.toList args.toList ds p := hA0
  rw [Try.params5] at hA hval hsz
  obtain ⟨v0, vs0, d0, ds0, p0, q0, hargs, rfl, rfl, h0, r0⟩ := trodAll_cons hA
  obtain ⟨v1, vs1, d1, ds1, p1, q1, rfl, rfl, rfl, h1, r1⟩ := trodAll_cons r0
  obtain ⟨rfl, rfl, rfl⟩ := trodAll_nil r1
  obtain rfl : args = #[v0, v1] := by cases args; simp_all
  obtain ⟨rfl, rfl⟩ := trodVars_none hV
  have lt0 : ∀ x ∈ p0, x.block < W.heap.size := by obtain ⟨m, hm⟩ := h0; exact DataW.trod_lt m _ _ _ hm
  have lt1 : ∀ x ∈ p1, x.block < W.heap.size := by obtain ⟨m, hm⟩ := h1; exact DataW.trod_lt m _ _ _ hm
  obtain ⟨d, kA, kc, wA, wc, rfl, hat⟩ := open_disk (hval 0 25 v0 rfl rfl) h0
  obtain ⟨KA, KC, ks, rfl, hk, hkc⟩ := open_keep (hval 1 26 v1 rfl rfl) h1
  have hKC : KC ≤ 9223372036854775807 := by
    have := hkc (fun m hm => by
      have hx := List.all_eq_true.1 hsz m (DataW.weights_mem_each (j := 1) (t := 26) rfl rfl _ hm)
      simpa using hx)
    omega
  clear hA0 hval0 hsz0
  refine (walk d ks kA kc wA wc KA KC W hat hk hKC).mono fun e W' ⟨he, bel⟩ => ?_
  subst he
  exact ⟨_, rfl, _, _, _, [], _, [], hW', trodAll_mk1 (shut_bool Try.underlying4 _), (trodAll_cons_mk (Below.trod laidOut (by kernel_rfl) (of_decide_eq_true (by kernel_rfl)) h0 bel lt0) (trodAll_cons_mk (Below.trod laidOut (by kernel_rfl) (of_decide_eq_true (by kernel_rfl)) h1 bel lt1) trodAll_mk0)), rfl, bel.frame _, fun h => by cases h⟩

theorem over : Rows.diskKeepsRow.holds Try.pinned (OpenSpec.ofChange Rows.diskKeepsSpec) :=
  OpenClaim.holds_of_wide 5 Try.f5 rfl rfl rfl rfl rfl rfl rfl ⟨rfl, rfl, rfl, rfl, rfl⟩ rfl rfl rfl rfl rfl (by kernel_rfl) Try.func5 (by kernel_rfl)
    (of_decide_eq_true (by kernel_rfl)) (by unfold Func.isWrapper; first | (rw [if_pos (by decide +kernel)]; kernel_rfl) | (rw [if_neg (by decide +kernel)]; exact ⟨rfl, rfl⟩))
    (fun os started H enc _ => lifted os started H enc)

theorem proved : Rows.DiskKeepsSaid := over
#print axioms proved
end Go.Proofs.Ytpkoonokagchgaa.diskKeeps
