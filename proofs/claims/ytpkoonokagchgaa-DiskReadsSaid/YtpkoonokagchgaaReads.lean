/-
  DiskReads returns true for every disk, every two numbers and text: what was written is read; all other sectors are as they were; where it isn't written the disk stays.
  Conditions: none (every input).
-/
import Derived.Test.YtpkoonokagchgaaLaw
import Derived.Test.YtpkoonokagchgaaReadLists
namespace Go.Proofs.Ytpkoonokagchgaa.diskReads
open Go.ChangeShapes Go.WideShapes Go.ChangeAt Go.RowKit Go.Joins

set_option maxHeartbeats 4000000 in
set_option maxRecDepth 100000 in
theorem walk (d : Dk) (p o : Int) (s : ByteArray) (kA : Option Addr) (kc : Nat) (wA : Option Addr) (wc : Nat) (w : World) (hA : At w d kA kc wA wc) :
    Calls Try.prog 4 #[.agg #[.int .i64 d.sz, .slice kA d.ks.length kc, .slice wA d.ws.length wc, .bool d.off, .int .i64 p, .string s, .int .i64 o]] w fun e w' => e = .returned (.bool true) ∧ Below w.heap.size w w' := by
  obtain ⟨F, hF⟩ := few_is d
  obtain ⟨n, hn⟩ : ∃ n, d.ks.length = n := ⟨_, rfl⟩
  obtain ⟨m, hm⟩ : ∃ m, d.ws.length = m := ⟨_, rfl⟩
  obtain ⟨sz, hs⟩ : ∃ sz, d.sz = sz := ⟨_, rfl⟩
  obtain ⟨off, ho⟩ : ∃ off, d.off = off := ⟨_, rfl⟩
  have HFEW : Hid (∀ W, Below w.heap.size w W → Calls Try.prog 14 #[.agg #[.int .i64 sz, .slice kA n kc, .slice wA m wc, .bool off]] W fun e w' => e = .returned (.bool F) ∧ Below W.heap.size W w') := Lib.hid fun W hW => by
    subst hn hm hs ho
    exact few_any d F hF kA kc wA wc W (hA.below hW)
  have HBX : Hid (∀ o, Below w.heap.size w (w.alloc o)) := Lib.hid fun o => alloc_below w o
  have HD3 : Hid (DB ((w.alloc (.cells #[.int .i64 sz, .slice kA n kc, .slice wA m wc, .bool off, .int .i64 p, .string s, .int .i64 o] 51)).alloc (.cells #[.int .i64 sz, .slice kA n kc, .slice wA m wc, .bool off] 25)) (w.heap.size + 1) d sz n m kA kc wA wc off) := Lib.hid (by
    have := DB.new (hA.below (alloc_below w (.cells #[.int .i64 sz, .slice kA n kc, .slice wA m wc, .bool off, .int .i64 p, .string s, .int .i64 o] 51))) sz n m off
    simpa using this)
  have HB0 : Hid (Below w.heap.size w ((w.alloc (.cells #[.int .i64 sz, .slice kA n kc, .slice wA m wc, .bool off, .int .i64 p, .string s, .int .i64 o] 51)).alloc (.cells #[.int .i64 sz, .slice kA n kc, .slice wA m wc, .bool off] 25))) := Lib.hid ((alloc_below w _).alloc (by simp) _)
  rw [hn, hm, hs, ho]
  by_cases hT : F = true
  · obtain ⟨f1, f2, hd⟩ := hF.1 hT
    subst hT
    have HRD : Hid (∀ W kA kc wA wc, At W d kA kc wA wc → Calls Try.prog 16 #[.agg #[.int .i64 sz, .slice kA n kc, .slice wA m wc, .bool off], .int .i64 o] W fun e w' => e = .returned (.tuple #[.string (readT d o), .int .i64 (reachE off n o)]) ∧ Below W.heap.size W w') := Lib.hid fun W kA kc wA wc h => by
      subst hn hm hs ho
      exact read_any d hd o kA kc wA wc W h (by omega)
    by_cases hE : writeE d p s = 0
    · obtain ⟨e1, e2, e3, e4, e5⟩ := writeE_zero hE
      obtain ⟨x1, x2, x3⟩ := read_new hd hE
      have xo : o ≠ p → readT (more d p s) o = readT d o := fun h => read_other hE h
      have hok : Ok (more d p s) := hd.more e2 e3 e4 e5
      have hl : (more d p s).ws.length = m + 1 := by rw [← hm]; exact snoc_length d.ws ⟨p, s⟩ _ rfl
      have hz0 : reachE false n p = 0 := by
        unfold reachE
        rw [hasB_iff.2 ⟨e2, by rw [← hn]; exact e3⟩]
        rfl
      have HWR : Hid (∀ W kA kc wA wc, At W d kA kc wA wc → Calls Try.prog 18 #[.agg #[.int .i64 sz, .slice kA n kc, .slice wA m wc, .bool off], .int .i64 p, .string s] W fun e w' => ∃ kA' kc' wA' wc', e = .returned (.tuple #[.agg #[.int .i64 sz, .slice kA' n kc', .slice wA' (m + 1) wc', .bool false], .int .i64 0]) ∧ At w' (more d p s) kA' kc' wA' wc' ∧ Below W.heap.size W w') := Lib.hid fun W kA kc wA wc h => by
        have := write_yes d p s kA kc wA wc W h (by omega) (by omega) hE
        unfold dval at this
        rw [hl] at this
        subst hn hm hs ho
        exact this.mono fun e w' ⟨a, b, c, f, h1, h2, _, _, h3⟩ => ⟨a, b, c, f, h1, h2, h3⟩
      have HR1 : Hid (∀ W kA kc wA wc, At W (more d p s) kA kc wA wc → Calls Try.prog 16 #[.agg #[.int .i64 sz, .slice kA n kc, .slice wA (m + 1) wc, .bool false], .int .i64 p] W fun e w' => e = .returned (.tuple #[.string (readT (more d p s) p), .int .i64 0]) ∧ Below W.heap.size W w') := Lib.hid fun W kA kc wA wc h => by
        have := read_any (more d p s) hok p kA kc wA wc W h (by omega)
        unfold dval at this
        rw [hl] at this
        have hz1 : reachE (more d p s).off (more d p s).ks.length p = 0 := by rw [← hz0, ← hn]; rfl
        rw [hz1] at this
        subst hn hs
        exact this
      have HR2 : Hid (∀ W kA kc wA wc, At W (more d p s) kA kc wA wc → Calls Try.prog 16 #[.agg #[.int .i64 sz, .slice kA n kc, .slice wA (m + 1) wc, .bool false], .int .i64 o] W fun e w' => e = .returned (.tuple #[.string (readT (more d p s) o), .int .i64 (reachE off n o)]) ∧ Below W.heap.size W w') := Lib.hid fun W kA kc wA wc h => by
        have := read_any (more d p s) hok o kA kc wA wc W h (by omega)
        unfold dval at this
        rw [hl] at this
        have hz1 : reachE (more d p s).off (more d p s).ks.length o = reachE off n o := by rw [← hn, ← ho, e1]; rfl
        rw [hz1] at this
        subst hn hs
        exact this
      have x1' : ((readT (more d p s) p).size : Int) = sz := by rw [← hs]; exact x1
      generalize readT (more d p s) p = X at *
      generalize hZ : readT (more d p s) o = Z at *
      generalize hY : readT d o = Y at *
      generalize reachE off n o = G at *
      generalize more d p s = d1 at *
      clear hF hn hm hs ho f1 f2 hd hok hl hz0 e1 e2 e3 e4 e5 hZ hY hE x1 HBX hA
      go_enter Try.func4, Try.ntmps4
      go_wp2_with fail
      refine (shown_any _).mono ?_
      rintro e w1 ⟨rfl, hb1⟩
      have HB1 := Lib.hid (below_trans HB0.out hb1)
      have HE1 := Lib.hid (HD3.out.below hb1)
      obtain ⟨z0, z1, z2, z3⟩ := HE1.out.four
      clear hb1 HD3 HB0
      go_wp2_with fail
      refine (HFEW.out _ HB1.out).mono ?_
      rintro e w2 ⟨rfl, hb2⟩
      have HB2 := Lib.hid (below_trans HB1.out hb2)
      have HE2 := Lib.hid (HE1.out.below hb2)
      clear z0 z1 z2 z3
      obtain ⟨z0, z1, z2, z3⟩ := HE2.out.four
      clear hb2 HE1 HB1
      go_wp2_with fail
      refine (HWR.out _ _ _ _ _ HE2.out.a).mono ?_
      rintro e w3 ⟨kA1, kc1, wA1, wc1, rfl, hat, hb3⟩
      have HD9 := Lib.hid (DB.new hat sz n (m + 1) false)
      have HE3 := Lib.hid ((HE2.out.below hb3).below (alloc_below w3 (.cells #[.int .i64 sz, .slice kA1 n kc1, .slice wA1 (m + 1) wc1, .bool false] 25)))
      have HB3 := Lib.hid (below_trans (below_trans HB2.out hb3) (alloc_below w3 (.cells #[.int .i64 sz, .slice kA1 n kc1, .slice wA1 (m + 1) wc1, .bool false] 25)))
      clear hat hb3 z0 z1 z2 z3 HB2 HE2
      go_wp2_with fail
      refine (HR1.out _ _ _ _ _ HD9.out.a).mono ?_
      rintro e w4 ⟨rfl, hb4⟩
      have HE9 := Lib.hid (HD9.out.below hb4)
      have HE4 := Lib.hid (HE3.out.below hb4)
      have HB4 := Lib.hid (below_trans HB3.out hb4)
      obtain ⟨z0, z1, z2, z3⟩ := HE4.out.four
      clear hb4 HD9 HB3 HE3
      go_wp2_with fail
      refine (HRD.out _ _ _ _ _ HE4.out.a).mono ?_
      rintro e w5 ⟨rfl, hb5⟩
      have HF9 := Lib.hid (HE9.out.below hb5)
      have HE5 := Lib.hid (HE4.out.below hb5)
      have HB5 := Lib.hid (below_trans HB4.out hb5)
      clear z0 z1 z2 z3
      obtain ⟨z0, z1, z2, z3⟩ := HF9.out.four
      clear hb5 HE9 HB4 HE4
      go_wp2_with fail
      refine (HR2.out _ _ _ _ _ HF9.out.a).mono ?_
      rintro e w6 ⟨rfl, hb6⟩
      have HE6 := Lib.hid (HE5.out.below hb6)
      have HB6 := Lib.hid (below_trans HB5.out hb6)
      clear z0 z1 z2 z3
      obtain ⟨z0, z1, z2, z3⟩ := HE6.out.four
      clear hb6 HF9 HB5 HE5
      by_cases ho : o = p
      · subst ho
        clear xo
        go_wp2
        go_ret
        exact ⟨by simp, HB6.out⟩
      · have hzy := xo ho
        subst hzy
        clear xo
        go_wp2
        go_ret
        exact ⟨by simp, HB6.out⟩
    · have HWR : Hid (∀ W kA kc wA wc, At W d kA kc wA wc → Calls Try.prog 18 #[.agg #[.int .i64 sz, .slice kA n kc, .slice wA m wc, .bool off], .int .i64 p, .string s] W fun e w' => ∃ kA' kc' wA' wc', e = .returned (.tuple #[.agg #[.int .i64 sz, .slice kA' n kc', .slice wA' m wc', .bool off], .int .i64 (writeE d p s)]) ∧ At w' d kA' kc' wA' wc' ∧ Below W.heap.size W w') := Lib.hid fun W kA kc wA wc h => by
        subst hn hm hs ho
        exact write_no d p s kA kc wA wc W h (by omega) (by omega) hE
      have HSM : Hid (∀ W kA kc wA wc kB ke wB we, At W d kA kc wA wc → At W d kB ke wB we → Calls Try.prog 13 #[.agg #[.int .i64 sz, .slice kA n kc, .slice wA m wc, .bool off], .agg #[.int .i64 sz, .slice kB n ke, .slice wB m we, .bool off]] W fun e w' => e = .returned (.bool true) ∧ Below W.heap.size W w') := Lib.hid fun W kA kc wA wc kB ke wB we h1 h2 => by
        subst hn hm hs ho
        exact same_yes d kA kc wA wc kB ke wB we W h1 h2 (by omega) (by omega)
      generalize writeE d p s = E at *
      clear hF hn hm hs ho f1 f2 hd HBX hA HRD
      go_enter Try.func4, Try.ntmps4
      go_wp2_with fail
      refine (shown_any _).mono ?_
      rintro e w1 ⟨rfl, hb1⟩
      have HB1 := Lib.hid (below_trans HB0.out hb1)
      have HE1 := Lib.hid (HD3.out.below hb1)
      obtain ⟨z0, z1, z2, z3⟩ := HE1.out.four
      clear hb1 HD3 HB0
      go_wp2_with fail
      refine (HFEW.out _ HB1.out).mono ?_
      rintro e w2 ⟨rfl, hb2⟩
      have HB2 := Lib.hid (below_trans HB1.out hb2)
      have HE2 := Lib.hid (HE1.out.below hb2)
      clear z0 z1 z2 z3
      obtain ⟨z0, z1, z2, z3⟩ := HE2.out.four
      clear hb2 HE1 HB1
      go_wp2_with fail
      refine (HWR.out _ _ _ _ _ HE2.out.a).mono ?_
      rintro e w3 ⟨kA1, kc1, wA1, wc1, rfl, hat, hb3⟩
      have HD9 := Lib.hid (DB.new hat sz n m off)
      have HE3 := Lib.hid ((HE2.out.below hb3).below (alloc_below w3 (.cells #[.int .i64 sz, .slice kA1 n kc1, .slice wA1 m wc1, .bool off] 25)))
      have HB3 := Lib.hid (below_trans (below_trans HB2.out hb3) (alloc_below w3 (.cells #[.int .i64 sz, .slice kA1 n kc1, .slice wA1 m wc1, .bool off] 25)))
      clear hat hb3 z0 z1 z2 z3 HB2 HE2
      obtain ⟨z0, z1, z2, z3⟩ := HE3.out.four
      go_wp2_with fail
      refine (HSM.out _ _ _ _ _ _ _ _ _ HD9.out.a HE3.out.a).mono ?_
      rintro e w4 ⟨rfl, hb4⟩
      have HB4 := Lib.hid (below_trans HB3.out hb4)
      clear hb4 z0 z1 z2 z3
      go_wp2
      go_ret
      exact ⟨by simp, HB4.out⟩
  · obtain rfl : F = false := by cases F <;> simp_all
    clear hF hT hn hm hs ho HBX hA
    go_enter Try.func4, Try.ntmps4
    go_wp2_with fail
    refine (shown_any _).mono ?_
    rintro e w1 ⟨rfl, hb1⟩
    have HB1 := Lib.hid (below_trans HB0.out hb1)
    have HE1 := Lib.hid (HD3.out.below hb1)
    obtain ⟨z0, z1, z2, z3⟩ := HE1.out.four
    clear hb1 HD3 HB0
    go_wp2_with fail
    refine (HFEW.out _ HB1.out).mono ?_
    rintro e w2 ⟨rfl, hb2⟩
    have HB2 := Lib.hid (below_trans HB1.out hb2)
    clear hb2 z0 z1 z2 z3
    go_wp2
    go_ret
    exact ⟨rfl, HB2.out⟩

set_option maxRecDepth 100000 in
theorem lifted (os : Os) (started : os.Started) (H : Type) (enc : TypeId × Value → H) :
    ReturnsInHanded {} Try.checked os 4 .any (Rows.diskReadsSpec.pre6 enc Try.prog Try.f4 Rows.diskReadsRow.domain false) (Rows.diskReadsSpec.post enc Try.prog Try.f4 false true false false) := by
  refine returnsInHanded_of_change (C := Try.checked) own started (by kernel_rfl) Try.func4
    (ChangeSpec.witness6 (enc := enc) (C := Try.checked) false ⟨#[], #[.agg #[.int .i64 0, .slice none 0 0, .slice none 0 0, .bool false, .int .i64 0, .string ByteArray.empty, .int .i64 0]], []⟩ 8 (by kernel_rfl) (by kernel_rfl) (by kernel_rfl) (by kernel_rfl)) ?_
  intro W base args ds gs before hval0 hW hcnd _
  have hval : ∀ (j : Nat) t v, Try.f4.params[j]? = some t → args[j]? = some v → Value.okWide Try.prog W .any base t v := hval0
  have hW' := hW
  obtain ⟨p, q, hA0, hV, rfl, hfz, hnd⟩ := hW
  have hA : DataW.TrodAll enc Try.prog W 0 (fun _ => true) true Try.f4.params.toList args.toList ds p := hA0
  rw [Try.params4] at hA hval
  obtain ⟨v0, vs0, d0, ds0, p0, q0, hargs, rfl, rfl, h0, r0⟩ := trodAll_cons hA
  obtain ⟨rfl, rfl, rfl⟩ := trodAll_nil r0
  obtain rfl : args = #[v0] := by cases args; simp_all
  obtain ⟨rfl, rfl⟩ := trodVars_none hV
  have lt0 : ∀ x ∈ p0, x.block < W.heap.size := by obtain ⟨m, hm⟩ := h0; exact DataW.trod_lt m _ _ _ hm
  obtain ⟨d, kA, kc, wA, wc, n1, s2, n3, rfl, hat⟩ := open_reads (hval 0 51 v0 rfl rfl) h0
  clear hA0 hval0
  refine (walk d n1 n3 s2 kA kc wA wc W hat).mono fun e W' ⟨he, bel⟩ => ?_
  subst he
  exact ⟨_, rfl, _, _, _, [], _, [], hW', trodAll_mk1 (shut_bool Try.underlying4 _), (trodAll_cons_mk (Below.trod laidOut (by kernel_rfl) (of_decide_eq_true (by kernel_rfl)) h0 bel lt0) trodAll_mk0), rfl, bel.frame _, fun h => by cases h⟩

theorem over : Rows.diskReadsRow.holds Try.pinned (OpenSpec.ofChange Rows.diskReadsSpec) :=
  OpenClaim.holds_of_wide 4 Try.f4 rfl rfl rfl rfl rfl rfl rfl ⟨rfl, rfl, rfl, rfl, rfl⟩ rfl rfl rfl rfl rfl (by kernel_rfl) Try.func4 (by kernel_rfl)
    (of_decide_eq_true (by kernel_rfl)) (by unfold Func.isWrapper; first | (rw [if_pos (by decide +kernel)]; kernel_rfl) | (rw [if_neg (by decide +kernel)]; exact ⟨rfl, rfl⟩))
    (fun os started H enc _ => lifted os started H enc)

theorem proved : Rows.DiskReadsSaid := over
#print axioms proved
end Go.Proofs.Ytpkoonokagchgaa.diskReads
