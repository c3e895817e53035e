/-
  DiskDead returns true for every disk, number and text: without power nothing is read, written or synced, and the disk is as it was; a crash brings the power back.
  Conditions: none (every input).
-/
import Derived.Test.YtpkoonokagchgaaLaw
import Derived.ChangeMaps5
namespace Go.Proofs.Ytpkoonokagchgaa.diskDead
open Go.ChangeShapes Go.WideShapes Go.ChangeAt Go.RowKit Go.Joins
open Go.ChangeMaps (open_string)

set_option maxHeartbeats 4000000 in
set_option maxRecDepth 100000 in
theorem walk (d : Dk) (p : Int) (s : ByteArray) (kA : Option Addr) (kc : Nat) (wA : Option Addr) (wc : Nat) (w : World) (hA : At w d kA kc wA wc) :
    Calls Try.prog 7 #[dval d kA kc wA wc, .int .i64 p, .string s] w fun e w' => e = .returned (.bool true) ∧ Below w.heap.size w w' := by
  obtain ⟨F, hF⟩ := few_is d
  have HFEW : Hid (∀ W, Below w.heap.size w W → Calls Try.prog 14 #[dval d kA kc wA wc] W fun e w' => e = .returned (.bool F) ∧ Below W.heap.size W w') := Lib.hid fun W hW => few_any d F hF kA kc wA wc W (hA.below hW)
  by_cases hT : F = true
  · obtain ⟨f1, f2, hd⟩ := hF.1 hT
    subst hT
    unfold dval at *
    obtain ⟨n, hn⟩ : ∃ n, d.ks.length = n := ⟨_, rfl⟩
    obtain ⟨m, hm⟩ : ∃ m, d.ws.length = m := ⟨_, rfl⟩
    obtain ⟨sz, hs⟩ : ∃ sz, d.sz = sz := ⟨_, rfl⟩
    obtain ⟨off, ho⟩ : ∃ off, d.off = off := ⟨_, rfl⟩
    have HCUT : Hid (∀ W, Below w.heap.size w W → Calls Try.prog 24 #[.agg #[.int .i64 sz, .slice kA n kc, .slice wA m wc, .bool off]] W fun e w' => ∃ kA' kc' wA' wc', e = .returned (.agg #[.int .i64 sz, .slice kA' n kc', .slice wA' m wc', .bool true]) ∧ At w' (cutD d) kA' kc' wA' wc' ∧ Below W.heap.size W w') := Lib.hid fun W hW => by
      subst hn hm hs ho
      exact cut_any d kA kc wA wc W (hA.below hW) (by omega) (by omega)
    have HRD : Hid (∀ W kA kc wA wc, At W (cutD d) kA kc wA wc → Calls Try.prog 16 #[.agg #[.int .i64 sz, .slice kA n kc, .slice wA m wc, .bool true], .int .i64 p] W fun e w' => e = .returned (.tuple #[.string ByteArray.empty, .int .i64 14]) ∧ Below W.heap.size W w') := Lib.hid fun W kA kc wA wc h => by
      subst hn hm hs
      exact read_any (cutD d) hd.cut p kA kc wA wc W h (by show d.ws.length ≤ _; omega)
    have HWR : Hid (∀ W kA kc wA wc, At W (cutD d) kA kc wA wc → Calls Try.prog 18 #[.agg #[.int .i64 sz, .slice kA n kc, .slice wA m wc, .bool true], .int .i64 p, .string s] W fun e w' => ∃ kA' kc' wA' wc', e = .returned (.tuple #[.agg #[.int .i64 sz, .slice kA' n kc', .slice wA' m wc', .bool true], .int .i64 14]) ∧ At w' (cutD d) kA' kc' wA' wc' ∧ Below W.heap.size W w') := Lib.hid fun W kA kc wA wc h => by
      subst hn hm hs
      exact write_no (cutD d) p s kA kc wA wc W h (by show d.ks.length ≤ _; omega) (by show d.ws.length ≤ _; omega) (by show (14 : Int) ≠ 0; decide)
    have HSY : Hid (∀ W kA kc wA wc, At W (cutD d) kA kc wA wc → Calls Try.prog 20 #[.agg #[.int .i64 sz, .slice kA n kc, .slice wA m wc, .bool true]] W fun e w' => ∃ kA' kc' wA' wc', e = .returned (.tuple #[.agg #[.int .i64 sz, .slice kA' n kc', .slice wA' m wc', .bool true], .int .i64 14]) ∧ At w' (cutD d) kA' kc' wA' wc' ∧ Below W.heap.size W w') := Lib.hid fun W kA kc wA wc h => by
      subst hn hm hs
      exact sync_off (cutD d) kA kc wA wc W h (by show d.ks.length ≤ _; omega) (by show d.ws.length ≤ _; omega) rfl
    have HCR : Hid (∀ W kA kc wA wc, At W (cutD d) kA kc wA wc → Calls Try.prog 22 #[.agg #[.int .i64 sz, .slice kA n kc, .slice wA m wc, .bool true], .slice none 0 0] W fun e w' => ∃ A' c', e = .returned (.agg #[.int .i64 sz, .slice A' n c', .slice none 0 0, .bool false]) ∧ At w' (wipe (cutD d) (crashD (cutD d) [])) A' c' none 0 ∧ Below W.heap.size W w') := Lib.hid fun W kA kc wA wc h => by
      subst hn hm hs
      exact (crash_any (cutD d) hd.cut [] kA kc wA wc none 0 W h (by show d.ws.length ≤ _; omega) (RowI.nil W) (by decide)).mono fun e w' ⟨A', c', h1, h2, _, h3⟩ => ⟨A', c', h1, at_of h2 (RowW.nil w'), h3⟩
    have HRC : Hid (∀ W kA kc, At W (wipe (cutD d) (crashD (cutD d) [])) kA kc none 0 → Calls Try.prog 16 #[.agg #[.int .i64 sz, .slice kA n kc, .slice none 0 0, .bool false], .int .i64 0] W fun e w' => ∃ t, e = .returned (.tuple #[.string t, .int .i64 0]) ∧ Below W.heap.size W w') := Lib.hid fun W kA kc h => by
      have hl : (wipe (cutD d) (crashD (cutD d) [])).ks.length = n := by rw [← hn]; exact crashD_length (cutD d) []
      have := read_any (wipe (cutD d) (crashD (cutD d) [])) (hd.cut.crash []) 0 kA kc none 0 W h (by show 0 ≤ _; omega)
      have hE : reachE (wipe (cutD d) (crashD (cutD d) [])).off (wipe (cutD d) (crashD (cutD d) [])).ks.length 0 = 0 := by
        rw [hl]
        have : hasB n 0 = true := hasB_iff.2 ⟨by decide, by have := hd.n1; omega⟩
        show (if false = true then 14 else if hasB n 0 = true then 0 else 5 : Int) = 0
        rw [this]
        rfl
      rw [hE] at this
      unfold dval at this
      rw [hl] at this
      subst hs
      exact this.mono fun e w' ⟨h1, h2⟩ => ⟨_, h1, h2⟩
    have HSM : Hid (∀ W kA kc wA wc kB ke wB we, At W (cutD d) kA kc wA wc → At W (cutD d) kB ke wB we → Calls Try.prog 13 #[.agg #[.int .i64 sz, .slice kA n kc, .slice wA m wc, .bool true], .agg #[.int .i64 sz, .slice kB n ke, .slice wB m we, .bool true]] W fun e w' => e = .returned (.bool true) ∧ Below W.heap.size W w') := Lib.hid fun W kA kc wA wc kB ke wB we h1 h2 => by
      subst hn hm hs
      exact same_yes (cutD d) kA kc wA wc kB ke wB we W h1 h2 (by show d.ks.length ≤ _; omega) (by show d.ws.length ≤ _; omega)
    rw [hn, hm, hs, ho] at HFEW ⊢
    clear hF hn hm hs ho f1 f2 hd
    generalize cutD d = d1 at *
    generalize wipe d1 (crashD d1 []) = d2 at *
    have HD3 := Lib.hid (DB.new hA sz n m off)
    clear hA
    go_enter Try.func7, Try.ntmps7
    go_wp2_with fail
    refine (shown_any _).mono ?_
    rintro e w1 ⟨rfl, hb1⟩
    have HB1 := Lib.hid (below_trans (alloc_below w _) hb1)
    have HE1 := Lib.hid (HD3.out.below hb1)
    obtain ⟨z0, z1, z2, z3⟩ := HE1.out.four
    clear hb1 HD3
    go_wp2_with fail
    refine (HFEW.out _ HB1.out).mono ?_
    rintro e w2 ⟨rfl, hb2⟩
    have HB2 := Lib.hid (below_trans HB1.out hb2)
    have HE2 := Lib.hid (HE1.out.below hb2)
    clear z0 z1 z2 z3
    obtain ⟨z0, z1, z2, z3⟩ := HE2.out.four
    clear hb2 HE1 HB1
    go_wp2_with fail
    refine (HCUT.out _ HB2.out).mono ?_
    rintro e w3 ⟨kA1, kc1, wA1, wc1, rfl, hat, hb3⟩
    have HD9 := Lib.hid (DB.new hat sz n m true)
    have HB3 := Lib.hid (below_trans (below_trans HB2.out hb3) (alloc_below w3 (.cells #[.int .i64 sz, .slice kA1 n kc1, .slice wA1 m wc1, .bool true] 25)))
    clear hat hb3 z0 z1 z2 z3 HB2 HE2 HCUT HFEW
    go_wp2_with fail
    refine (HRD.out _ _ _ _ _ HD9.out.a).mono ?_
    rintro e w4 ⟨rfl, hb4⟩
    have HE9 := Lib.hid (HD9.out.below hb4)
    have HB4 := Lib.hid (below_trans HB3.out hb4)
    obtain ⟨z0, z1, z2, z3⟩ := HE9.out.four
    clear hb4 HD9 HB3
    go_wp2_with fail
    refine (HWR.out _ _ _ _ _ HE9.out.a).mono ?_
    rintro e w5 ⟨kA2, kc2, wA2, wc2, rfl, hat, hb5⟩
    have HD12 := Lib.hid (DB.new hat sz n m true)
    have HF9 := Lib.hid ((HE9.out.below hb5).below (alloc_below w5 (.cells #[.int .i64 sz, .slice kA2 n kc2, .slice wA2 m wc2, .bool true] 25)))
    have HB5 := Lib.hid (below_trans (below_trans HB4.out hb5) (alloc_below w5 (.cells #[.int .i64 sz, .slice kA2 n kc2, .slice wA2 m wc2, .bool true] 25)))
    clear z0 z1 z2 z3 hat hb5 HE9 HB4
    obtain ⟨z0, z1, z2, z3⟩ := HF9.out.four
    go_wp2_with fail
    refine (HSY.out _ _ _ _ _ HF9.out.a).mono ?_
    rintro e w6 ⟨kA3, kc3, wA3, wc3, rfl, hat, hb6⟩
    have HD14 := Lib.hid (DB.new hat sz n m true)
    have HG9 := Lib.hid ((HF9.out.below hb6).below (alloc_below w6 (.cells #[.int .i64 sz, .slice kA3 n kc3, .slice wA3 m wc3, .bool true] 25)))
    have HG12 := Lib.hid ((HD12.out.below hb6).below (alloc_below w6 (.cells #[.int .i64 sz, .slice kA3 n kc3, .slice wA3 m wc3, .bool true] 25)))
    have HB6 := Lib.hid (below_trans (below_trans HB5.out hb6) (alloc_below w6 (.cells #[.int .i64 sz, .slice kA3 n kc3, .slice wA3 m wc3, .bool true] 25)))
    clear z0 z1 z2 z3 hat hb6 HF9 HD12 HB5
    obtain ⟨z0, z1, z2, z3⟩ := HG9.out.four
    go_wp2_with fail
    refine (HCR.out _ _ _ _ _ HG9.out.a).mono ?_
    rintro e w7 ⟨kA4, kc4, rfl, hat, hb7⟩
    have HD16 := Lib.hid (DB.new hat sz n 0 false)
    have HH9 := Lib.hid ((HG9.out.below hb7).below (alloc_below w7 (.cells #[.int .i64 sz, .slice kA4 n kc4, .slice none 0 0, .bool false] 25)))
    have HH12 := Lib.hid ((HG12.out.below hb7).below (alloc_below w7 (.cells #[.int .i64 sz, .slice kA4 n kc4, .slice none 0 0, .bool false] 25)))
    have HH14 := Lib.hid ((HD14.out.below hb7).below (alloc_below w7 (.cells #[.int .i64 sz, .slice kA4 n kc4, .slice none 0 0, .bool false] 25)))
    have HB7 := Lib.hid (below_trans (below_trans HB6.out hb7) (alloc_below w7 (.cells #[.int .i64 sz, .slice kA4 n kc4, .slice none 0 0, .bool false] 25)))
    clear z0 z1 z2 z3 hat hb7 HG9 HG12 HD14 HB6
    go_wp2_with fail
    refine (HRC.out _ _ _ HD16.out.a).mono ?_
    rintro e w8 ⟨t8, rfl, hb8⟩
    have HI9 := Lib.hid (HH9.out.below hb8)
    have HI12 := Lib.hid (HH12.out.below hb8)
    have HI14 := Lib.hid (HH14.out.below hb8)
    have HB8 := Lib.hid (below_trans HB7.out hb8)
    clear hb8 HH9 HH12 HH14 HB7 HD16
    obtain ⟨z0, z1, z2, z3⟩ := HI9.out.four
    obtain ⟨y0, y1, y2, y3⟩ := HI12.out.four
    go_wp2_with fail
    refine (HSM.out _ _ _ _ _ _ _ _ _ HI12.out.a HI9.out.a).mono ?_
    rintro e w9 ⟨rfl, hb9⟩
    have HJ9 := Lib.hid (HI9.out.below hb9)
    have HJ14 := Lib.hid (HI14.out.below hb9)
    have HB9 := Lib.hid (below_trans HB8.out hb9)
    clear z0 z1 z2 z3 y0 y1 y2 y3 hb9 HI9 HI12 HI14 HB8
    obtain ⟨z0, z1, z2, z3⟩ := HJ9.out.four
    obtain ⟨y0, y1, y2, y3⟩ := HJ14.out.four
    go_wp2_with fail
    refine (HSM.out _ _ _ _ _ _ _ _ _ HJ14.out.a HJ9.out.a).mono ?_
    rintro e w10 ⟨rfl, hb10⟩
    have HB10 := Lib.hid (below_trans HB9.out hb10)
    clear z0 z1 z2 z3 y0 y1 y2 y3 hb10 HJ9 HJ14 HB9
    go_wp2
    go_ret
    exact ⟨by simp, HB10.out⟩
  · obtain rfl : F = false := by cases F <;> simp_all
    unfold dval at *
    have HD3 := Lib.hid (DB.new hA d.sz d.ks.length d.ws.length d.off)
    clear hA hF hT
    generalize d.ks.length = n at *
    generalize d.ws.length = m at *
    generalize d.sz = sz at *
    generalize d.off = off at *
    go_enter Try.func7, Try.ntmps7
    go_wp2_with fail
    refine (shown_any _).mono ?_
    rintro e w1 ⟨rfl, hb1⟩
    have HB1 := Lib.hid (below_trans (alloc_below w _) hb1)
    have HE1 := Lib.hid (HD3.out.below hb1)
    obtain ⟨z0, z1, z2, z3⟩ := HE1.out.four
    clear hb1 HD3
    go_wp2_with fail
    refine (HFEW.out _ HB1.out).mono ?_
    rintro e w2 ⟨rfl, hb2⟩
    have HB2 := Lib.hid (below_trans HB1.out hb2)
    clear hb2 z0 z1 z2 z3
    go_wp2
    go_ret
    exact ⟨rfl, HB2.out⟩

set_option maxRecDepth 100000 in
theorem lifted (os : Os) (started : os.Started) (H : Type) (enc : TypeId × Value → H) :
    ReturnsInHanded {} Try.checked os 7 .any (Rows.diskDeadSpec.pre6 enc Try.prog Try.f7 Rows.diskDeadRow.domain false) (Rows.diskDeadSpec.post enc Try.prog Try.f7 false true false false) := by
  refine returnsInHanded_of_change_sized (C := Try.checked) own started (by kernel_rfl) Try.func7
    (ChangeSpec.witness6 (enc := enc) (C := Try.checked) false ⟨#[], #[.agg #[.int .i64 0, .slice none 0 0, .slice none 0 0, .bool false], .int .i64 0, .string ByteArray.empty], []⟩ 8 (by kernel_rfl) (by kernel_rfl) (by kernel_rfl) (by kernel_rfl)) ?_
  intro W base args ds gs before hval0 hW hcnd hsz0 _
  have hval : ∀ (j : Nat) t v, Try.f7.params[j]? = some t → args[j]? = some v → Value.okWide Try.prog W .any base t v := hval0
  have hW' := hW
  obtain ⟨p, q, hA0, hV, rfl, hfz, hnd⟩ := hW
  have hA : DataW.TrodAll enc Try.prog W 0 (fun _ => true) true Try.f7.params.toList args.toList ds p := hA0
  rw [Try.params7] at hA hval
  obtain ⟨v0, vs0, d0, ds0, p0, q0, hargs, rfl, rfl, h0, r0⟩ := trodAll_cons hA
  obtain ⟨v1, vs1, d1, ds1, p1, q1, rfl, rfl, rfl, h1, r1⟩ := trodAll_cons r0
  obtain ⟨v2, vs2, d2, ds2, p2, q2, rfl, rfl, rfl, h2, r2⟩ := trodAll_cons r1
  obtain ⟨rfl, rfl, rfl⟩ := trodAll_nil r2
  obtain rfl : args = #[v0, v1, v2] := by cases args; simp_all
  obtain ⟨rfl, rfl⟩ := trodVars_none hV
  have lt0 : ∀ x ∈ p0, x.block < W.heap.size := by obtain ⟨m, hm⟩ := h0; exact DataW.trod_lt m _ _ _ hm
  have lt1 : ∀ x ∈ p1, x.block < W.heap.size := by obtain ⟨m, hm⟩ := h1; exact DataW.trod_lt m _ _ _ hm
  have lt2 : ∀ x ∈ p2, x.block < W.heap.size := by obtain ⟨m, hm⟩ := h2; exact DataW.trod_lt m _ _ _ hm
  obtain ⟨d, kA, kc, wA, wc, rfl, hat⟩ := open_disk (hval 0 25 v0 rfl rfl) h0
  obtain ⟨n1, rfl, _⟩ := open_int Try.underlying3 (hval 1 3 v1 rfl rfl) h1
  obtain ⟨s2, rfl, _, _, _⟩ := open_string Try.underlying9 (hval 2 9 v2 rfl rfl) h2
  clear hA0 hval0 hsz0
  refine (walk d n1 s2 kA kc wA wc W hat).mono fun e W' ⟨he, bel⟩ => ?_
  subst he
  exact ⟨_, rfl, _, _, _, [], _, [], hW', trodAll_mk1 (shut_bool Try.underlying4 _), (trodAll_cons_mk (Below.trod laidOut (by kernel_rfl) (of_decide_eq_true (by kernel_rfl)) h0 bel lt0) (trodAll_cons_mk (Below.trod laidOut (by kernel_rfl) (of_decide_eq_true (by kernel_rfl)) h1 bel lt1) (trodAll_cons_mk (Below.trod laidOut (by kernel_rfl) (of_decide_eq_true (by kernel_rfl)) h2 bel lt2) trodAll_mk0))), rfl, bel.frame _, fun h => by cases h⟩

theorem over : Rows.diskDeadRow.holds Try.pinned (OpenSpec.ofChange Rows.diskDeadSpec) :=
  OpenClaim.holds_of_wide 7 Try.f7 rfl rfl rfl rfl rfl rfl rfl ⟨rfl, rfl, rfl, rfl, rfl⟩ rfl rfl rfl rfl rfl (by kernel_rfl) Try.func7 (by kernel_rfl)
    (of_decide_eq_true (by kernel_rfl)) (by unfold Func.isWrapper; first | (rw [if_pos (by decide +kernel)]; kernel_rfl) | (rw [if_neg (by decide +kernel)]; exact ⟨rfl, rfl⟩))
    (fun os started H enc _ => lifted os started H enc)

theorem proved : Rows.DiskDeadSaid := over
#print axioms proved
end Go.Proofs.Ytpkoonokagchgaa.diskDead
