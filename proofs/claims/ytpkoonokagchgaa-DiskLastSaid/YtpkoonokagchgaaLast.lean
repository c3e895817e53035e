/-
  DiskLast returns true for every disk, number and two texts: of two writes to one sector the later one is read where both wrote; synced in between it is the same.
  Conditions: none (every input).
-/
import Derived.Test.YtpkoonokagchgaaLaw
import Derived.Test.YtpkoonokagchgaaLastLists
namespace Go.Proofs.Ytpkoonokagchgaa.diskLast
open Go.ChangeShapes Go.WideShapes Go.ChangeAt Go.RowKit Go.Joins

set_option maxHeartbeats 4000000 in
set_option maxRecDepth 100000 in
theorem walk (d : Dk) (p : Int) (s t : ByteArray) (kA : Option Addr) (kc : Nat) (wA : Option Addr) (wc : Nat) (w : World) (hA : At w d kA kc wA wc) :
    Calls Try.prog 8 #[.agg #[.int .i64 d.sz, .slice kA d.ks.length kc, .slice wA d.ws.length wc, .bool d.off, .int .i64 p, .string s, .string t]] w fun e w' => e = .returned (.bool true) ∧ Below w.heap.size w w' := by
  obtain ⟨F, hF⟩ := few_is d
  obtain ⟨n, hn⟩ : ∃ n, d.ks.length = n := ⟨_, rfl⟩
  obtain ⟨m, hm⟩ : ∃ m, d.ws.length = m := ⟨_, rfl⟩
  obtain ⟨sz, hs⟩ : ∃ sz, d.sz = sz := ⟨_, rfl⟩
  obtain ⟨off, ho⟩ : ∃ off, d.off = off := ⟨_, rfl⟩
  have HFEW : Hid (∀ W, Below w.heap.size w W → Calls Try.prog 14 #[.agg #[.int .i64 sz, .slice kA n kc, .slice wA m wc, .bool off]] W fun e w' => e = .returned (.bool F) ∧ Below W.heap.size W w') := Lib.hid fun W hW => by
    subst hn hm hs ho
    exact few_any d F hF kA kc wA wc W (hA.below hW)
  have HD3 : Hid (DB ((w.alloc (.cells #[.int .i64 sz, .slice kA n kc, .slice wA m wc, .bool off, .int .i64 p, .string s, .string t] 59)).alloc (.cells #[.int .i64 sz, .slice kA n kc, .slice wA m wc, .bool off] 25)) (w.heap.size + 1) d sz n m kA kc wA wc off) := Lib.hid (by
    have := DB.new (hA.below (alloc_below w (.cells #[.int .i64 sz, .slice kA n kc, .slice wA m wc, .bool off, .int .i64 p, .string s, .string t] 59))) sz n m off
    simpa using this)
  have HB0 : Hid (Below w.heap.size w ((w.alloc (.cells #[.int .i64 sz, .slice kA n kc, .slice wA m wc, .bool off, .int .i64 p, .string s, .string t] 59)).alloc (.cells #[.int .i64 sz, .slice kA n kc, .slice wA m wc, .bool off] 25))) := Lib.hid ((alloc_below w _).alloc (by simp) _)
  rw [hn, hm, hs, ho]
  by_cases hT : F = true
  · obtain ⟨f1, f2, hd⟩ := hF.1 hT
    subst hT
    by_cases hE : writeE d p s = 0
    · obtain ⟨e1, e2, e3, e4, e5⟩ := writeE_zero hE
      have hok : Ok (more d p s) := hd.more e2 e3 e4 e5
      have hl : (more d p s).ws.length = m + 1 := by rw [← hm]; exact snoc_length d.ws ⟨p, s⟩ _ rfl
      have HWR : Hid (∀ W kA kc wA wc, At W d kA kc wA wc → Calls Try.prog 18 #[.agg #[.int .i64 sz, .slice kA n kc, .slice wA m wc, .bool off], .int .i64 p, .string s] W fun e w' => ∃ kA' kc' wA' wc', e = .returned (.tuple #[.agg #[.int .i64 sz, .slice kA' n kc', .slice wA' (m + 1) wc', .bool false], .int .i64 0]) ∧ At w' (more d p s) kA' kc' wA' wc' ∧ Below W.heap.size W w') := Lib.hid fun W kA kc wA wc h => by
        have := write_yes d p s kA kc wA wc W h (by omega) (by omega) hE
        unfold dval at this
        rw [hl] at this
        subst hn hm hs ho
        exact this.mono fun e w' ⟨a, b, c, f, h1, h2, _, _, h3⟩ => ⟨a, b, c, f, h1, h2, h3⟩
      by_cases hG : writeE (more d p s) p t = 0
      · obtain ⟨⟨x1, x2, x3, x4⟩, hw, hy⟩ := last_two hd hE hG
        obtain ⟨_, _, g3, g4, g5⟩ := writeE_zero hG
        have hok2 : Ok (more (more d p s) p t) := hok.more e2 g3 g4 g5
        have hokS : Ok (syncD (more d p s)) := syncD_ok hok
        obtain ⟨_, _, k3, k4, k5⟩ := writeE_zero hw
        have hok3 : Ok (more (syncD (more d p s)) p t) := hokS.more e2 k3 k4 k5
        have hl2 : (more (more d p s) p t).ws.length = m + 1 + 1 := by rw [← hl]; exact snoc_length (more d p s).ws ⟨p, t⟩ _ rfl
        have hn3 : (syncD (more d p s)).ks.length = n := by rw [← hn]; exact imageD_length (more d p s)
        have hhas : hasB n p = true := hasB_iff.2 ⟨e2, by rw [← hn]; exact e3⟩
        have HW2 : Hid (∀ W kA kc wA wc, At W (more d p s) kA kc wA wc → Calls Try.prog 18 #[.agg #[.int .i64 sz, .slice kA n kc, .slice wA (m + 1) wc, .bool false], .int .i64 p, .string t] W fun e w' => ∃ kA' kc' wA' wc', e = .returned (.tuple #[.agg #[.int .i64 sz, .slice kA' n kc', .slice wA' (m + 1 + 1) wc', .bool false], .int .i64 0]) ∧ At w' (more (more d p s) p t) kA' kc' wA' wc' ∧ Below W.heap.size W w') := Lib.hid fun W kA kc wA wc h => by
          have := write_yes (more d p s) p t kA kc wA wc W h (by show d.ks.length ≤ _; omega) (by omega) hG
          unfold dval at this
          rw [hl, hl2] at this
          subst hn hs
          exact this.mono fun e w' ⟨a, b, c, f, h1, h2, _, _, h3⟩ => ⟨a, b, c, f, h1, h2, h3⟩
        have HSY : Hid (∀ W kA kc wA wc, At W (more d p s) kA kc wA wc → Calls Try.prog 20 #[.agg #[.int .i64 sz, .slice kA n kc, .slice wA (m + 1) wc, .bool false]] W fun e w' => ∃ A' c', e = .returned (.tuple #[.agg #[.int .i64 sz, .slice A' n c', .slice none 0 0, .bool false], .int .i64 0]) ∧ At w' (syncD (more d p s)) A' c' none 0 ∧ Below W.heap.size W w') := Lib.hid fun W kA kc wA wc h => by
          have := sync_on (more d p s) hok kA kc wA wc W h (by omega) rfl
          unfold dval at this
          rw [hl] at this
          subst hn hs
          exact this.mono fun e w' ⟨A', c', h1, h2, _, h3⟩ => ⟨A', c', h1, at_of h2 (RowW.nil w'), h3⟩
        have HW3 : Hid (∀ W kA kc, At W (syncD (more d p s)) kA kc none 0 → Calls Try.prog 18 #[.agg #[.int .i64 sz, .slice kA n kc, .slice none 0 0, .bool false], .int .i64 p, .string t] W fun e w' => ∃ kA' kc' wA' wc', e = .returned (.tuple #[.agg #[.int .i64 sz, .slice kA' n kc', .slice wA' 1 wc', .bool false], .int .i64 0]) ∧ At w' (more (syncD (more d p s)) p t) kA' kc' wA' wc' ∧ Below W.heap.size W w') := Lib.hid fun W kA kc h => by
          have := write_yes (syncD (more d p s)) p t kA kc none 0 W h (by omega) (by show 0 ≤ 1000000; decide) hw
          unfold dval at this
          have hn4 : (more (syncD (more d p s)) p t).ks.length = n := hn3
          rw [hn3, hn4] at this
          subst hs
          exact this.mono fun e w' ⟨a, b, c, f, h1, h2, _, _, h3⟩ => ⟨a, b, c, f, h1, h2, h3⟩
        have HR2 : Hid (∀ W kA kc wA wc, At W (more (more d p s) p t) kA kc wA wc → Calls Try.prog 16 #[.agg #[.int .i64 sz, .slice kA n kc, .slice wA (m + 1 + 1) wc, .bool false], .int .i64 p] W fun e w' => e = .returned (.tuple #[.string (readT (more (more d p s) p t) p), .int .i64 0]) ∧ Below W.heap.size W w') := Lib.hid fun W kA kc wA wc h => by
          have := read_any (more (more d p s) p t) hok2 p kA kc wA wc W h (by omega)
          unfold dval at this
          rw [hl2] at this
          have hz1 : reachE (more (more d p s) p t).off (more (more d p s) p t).ks.length p = 0 := by
            show reachE false d.ks.length p = 0
            rw [hn]
            unfold reachE
            rw [hhas]
            rfl
          rw [hz1] at this
          subst hn hs
          exact this
        have HR3 : Hid (∀ W kA kc wA wc, At W (more (syncD (more d p s)) p t) kA kc wA wc → Calls Try.prog 16 #[.agg #[.int .i64 sz, .slice kA n kc, .slice wA 1 wc, .bool false], .int .i64 p] W fun e w' => e = .returned (.tuple #[.string (readT (more (more d p s) p t) p), .int .i64 0]) ∧ Below W.heap.size W w') := Lib.hid fun W kA kc wA wc h => by
          have := read_any (more (syncD (more d p s)) p t) hok3 p kA kc wA wc W h (by show 1 ≤ 1000000; decide)
          unfold dval at this
          have hn4 : (more (syncD (more d p s)) p t).ks.length = n := hn3
          have hz1 : reachE (more (syncD (more d p s)) p t).off (more (syncD (more d p s)) p t).ks.length p = 0 := by
            rw [hn4]
            show reachE false n p = 0
            unfold reachE
            rw [hhas]
            rfl
          rw [hz1, hn4, hy] at this
          subst hs
          exact this
        generalize readT (more (more d p s) p t) p = X at *
        generalize more (syncD (more d p s)) p t = d4 at *
        generalize syncD (more d p s) = d3 at *
        generalize more (more d p s) p t = d2 at *
        generalize more d p s = d1 at *
        clear hF hn hm hs ho f1 f2 hd hok hl e1 e2 e3 e4 e5 hE hG hw hy g3 g4 g5 hok2 hokS k3 k4 k5 hok3 hl2 hn3 hhas hA
        go_enter Try.func8, Try.ntmps8
        go_wp2_with fail
        refine (shown_any _).mono ?_
        rintro e w1 ⟨rfl, hb1⟩
        have HB1 := Lib.hid (below_trans HB0.out hb1)
        have HE1 := Lib.hid (HD3.out.below hb1)
        obtain ⟨z0, z1, z2, z3⟩ := HE1.out.four
        clear hb1 HD3 HB0
        go_wp2_with fail
        refine (HFEW.out _ HB1.out).mono ?_
        rintro e w2 ⟨rfl, hb2⟩
        have HB2 := Lib.hid (below_trans HB1.out hb2)
        have HE2 := Lib.hid (HE1.out.below hb2)
        clear z0 z1 z2 z3
        obtain ⟨z0, z1, z2, z3⟩ := HE2.out.four
        clear hb2 HE1 HB1
        go_wp2_with fail
        refine (HWR.out _ _ _ _ _ HE2.out.a).mono ?_
        rintro e w3 ⟨kA1, kc1, wA1, wc1, rfl, hat, hb3⟩
        have HD9 := Lib.hid (DB.new hat sz n (m + 1) false)
        have HB3 := Lib.hid (below_trans (below_trans HB2.out hb3) (alloc_below w3 (.cells #[.int .i64 sz, .slice kA1 n kc1, .slice wA1 (m + 1) wc1, .bool false] 25)))
        clear hat hb3 z0 z1 z2 z3 HB2 HE2
        go_wp2_with fail
        refine (HW2.out _ _ _ _ _ HD9.out.a).mono ?_
        rintro e w4 ⟨kA2, kc2, wA2, wc2, rfl, hat, hb4⟩
        have HD11 := Lib.hid (DB.new hat sz n (m + 1 + 1) false)
        have HE9 := Lib.hid ((HD9.out.below hb4).below (alloc_below w4 (.cells #[.int .i64 sz, .slice kA2 n kc2, .slice wA2 (m + 1 + 1) wc2, .bool false] 25)))
        have HB4 := Lib.hid (below_trans (below_trans HB3.out hb4) (alloc_below w4 (.cells #[.int .i64 sz, .slice kA2 n kc2, .slice wA2 (m + 1 + 1) wc2, .bool false] 25)))
        clear hat hb4 HB3 HD9
        obtain ⟨z0, z1, z2, z3⟩ := HE9.out.four
        go_wp2_with fail
        refine (HSY.out _ _ _ _ _ HE9.out.a).mono ?_
        rintro e w5 ⟨kA3, kc3, rfl, hat, hb5⟩
        have HD13 := Lib.hid (DB.new hat sz n 0 false)
        have HE11 := Lib.hid ((HD11.out.below hb5).below (alloc_below w5 (.cells #[.int .i64 sz, .slice kA3 n kc3, .slice none 0 0, .bool false] 25)))
        have HB5 := Lib.hid (below_trans (below_trans HB4.out hb5) (alloc_below w5 (.cells #[.int .i64 sz, .slice kA3 n kc3, .slice none 0 0, .bool false] 25)))
        clear hat hb5 HB4 HD11 HE9 z0 z1 z2 z3
        go_wp2_with fail
        refine (HW3.out _ _ _ HD13.out.a).mono ?_
        rintro e w6 ⟨kA4, kc4, wA4, wc4, rfl, hat, hb6⟩
        have HD15 := Lib.hid (DB.new hat sz n 1 false)
        have HF11 := Lib.hid ((HE11.out.below hb6).below (alloc_below w6 (.cells #[.int .i64 sz, .slice kA4 n kc4, .slice wA4 1 wc4, .bool false] 25)))
        have HB6 := Lib.hid (below_trans (below_trans HB5.out hb6) (alloc_below w6 (.cells #[.int .i64 sz, .slice kA4 n kc4, .slice wA4 1 wc4, .bool false] 25)))
        clear hat hb6 HB5 HE11 HD13
        obtain ⟨z0, z1, z2, z3⟩ := HF11.out.four
        go_wp2_with fail
        refine (HR2.out _ _ _ _ _ HF11.out.a).mono ?_
        rintro e w7 ⟨rfl, hb7⟩
        have HE15 := Lib.hid (HD15.out.below hb7)
        have HB7 := Lib.hid (below_trans HB6.out hb7)
        clear hb7 HB6 HF11 HD15 z0 z1 z2 z3
        obtain ⟨z0, z1, z2, z3⟩ := HE15.out.four
        go_wp2_with fail
        refine (HR3.out _ _ _ _ _ HE15.out.a).mono ?_
        rintro e w8 ⟨rfl, hb8⟩
        have HB8 := Lib.hid (below_trans HB7.out hb8)
        clear hb8 HB7 HE15 z0 z1 z2 z3 HFEW HWR HW2 HSY HW3 HR2 HR3
        by_cases hst : s.size ≤ t.size
        · clear x4
          go_wp2_with fail
          go_region
          all_goals
            go_wp2
            go_ret
            exact ⟨by simp, below_trans HB8.out (drew_below _)⟩
        · have x5 := x4 hst
          clear x4
          go_wp2_with fail
          go_region
          all_goals
            go_wp2
            go_ret
            exact ⟨by simp, below_trans HB8.out (drew_below _)⟩
      · have HW2 : Hid (∀ W kA kc wA wc, At W (more d p s) kA kc wA wc → Calls Try.prog 18 #[.agg #[.int .i64 sz, .slice kA n kc, .slice wA (m + 1) wc, .bool false], .int .i64 p, .string t] W fun e w' => ∃ kA' kc' wA' mm' wc' of' G', e = .returned (.tuple #[.agg #[.int .i64 sz, .slice kA' n kc', .slice wA' mm' wc', .bool of'], .int .i64 G']) ∧ ¬ G' = 0 ∧ Below W.heap.size W w') := Lib.hid fun W kA kc wA wc h => by
          have := write_no (more d p s) p t kA kc wA wc W h (by show d.ks.length ≤ _; omega) (by omega) hG
          unfold dval at this
          rw [hl] at this
          subst hn hs
          exact this.mono fun e w' ⟨a, b, c, f, h1, _, h3⟩ => ⟨a, b, c, _, f, _, _, h1, hG, h3⟩
        clear hn hm hs ho f1 f2 hd hok hl e1 e2 e3 e4 e5 hE hG
        generalize more d p s = d1 at *
        clear hF hA
        go_enter Try.func8, Try.ntmps8
        go_wp2_with fail
        refine (shown_any _).mono ?_
        rintro e w1 ⟨rfl, hb1⟩
        have HB1 := Lib.hid (below_trans HB0.out hb1)
        have HE1 := Lib.hid (HD3.out.below hb1)
        obtain ⟨z0, z1, z2, z3⟩ := HE1.out.four
        clear hb1 HD3 HB0
        go_wp2_with fail
        refine (HFEW.out _ HB1.out).mono ?_
        rintro e w2 ⟨rfl, hb2⟩
        have HB2 := Lib.hid (below_trans HB1.out hb2)
        have HE2 := Lib.hid (HE1.out.below hb2)
        clear z0 z1 z2 z3
        obtain ⟨z0, z1, z2, z3⟩ := HE2.out.four
        clear hb2 HE1 HB1
        go_wp2_with fail
        refine (HWR.out _ _ _ _ _ HE2.out.a).mono ?_
        rintro e w3 ⟨kA1, kc1, wA1, wc1, rfl, hat, hb3⟩
        have HD9 := Lib.hid (DB.new hat sz n (m + 1) false)
        have HB3 := Lib.hid (below_trans (below_trans HB2.out hb3) (alloc_below w3 (.cells #[.int .i64 sz, .slice kA1 n kc1, .slice wA1 (m + 1) wc1, .bool false] 25)))
        clear hat hb3 z0 z1 z2 z3 HB2 HE2
        go_wp2_with fail
        refine (HW2.out _ _ _ _ _ HD9.out.a).mono ?_
        rintro e w4 ⟨kA2, kc2, wA2, mm2, wc2, of2, G2, rfl, hq, hb4⟩
        have HB4 := Lib.hid (below_trans (below_trans HB3.out hb4) (alloc_below w4 (.cells #[.int .i64 sz, .slice kA2 n kc2, .slice wA2 mm2 wc2, .bool of2] 25)))
        clear hb4 HB3 HD9
        go_wp2
        go_ret
        exact ⟨by simp, HB4.out⟩
    · have HWR : Hid (∀ W kA kc wA wc, At W d kA kc wA wc → Calls Try.prog 18 #[.agg #[.int .i64 sz, .slice kA n kc, .slice wA m wc, .bool off], .int .i64 p, .string s] W fun e w' => ∃ kA' kc' wA' wc', e = .returned (.tuple #[.agg #[.int .i64 sz, .slice kA' n kc', .slice wA' m wc', .bool off], .int .i64 (writeE d p s)]) ∧ At w' d kA' kc' wA' wc' ∧ Below W.heap.size W w') := Lib.hid fun W kA kc wA wc h => by
        subst hn hm hs ho
        exact write_no d p s kA kc wA wc W h (by omega) (by omega) hE
      have HW2 : Hid (∀ W kA kc wA wc, At W d kA kc wA wc → Calls Try.prog 18 #[.agg #[.int .i64 sz, .slice kA n kc, .slice wA m wc, .bool off], .int .i64 p, .string t] W fun e w' => ∃ kA' kc' wA' mm' wc' of' G', e = .returned (.tuple #[.agg #[.int .i64 sz, .slice kA' n kc', .slice wA' mm' wc', .bool of'], .int .i64 G']) ∧ True ∧ Below W.heap.size W w') := Lib.hid fun W kA kc wA wc h => by
        subst hn hm hs ho
        by_cases hG : writeE d p t = 0
        · exact (write_yes d p t kA kc wA wc W h (by omega) (by omega) hG).mono fun e w' ⟨a, b, c, f, h1, _, _, _, h3⟩ => ⟨a, b, c, _, f, _, _, h1, trivial, h3⟩
        · exact (write_no d p t kA kc wA wc W h (by omega) (by omega) hG).mono fun e w' ⟨a, b, c, f, h1, _, h3⟩ => ⟨a, b, c, _, f, _, _, h1, trivial, h3⟩
      generalize writeE d p s = E at *
      clear hn hm hs ho f1 f2 hd
      clear hF hA
      go_enter Try.func8, Try.ntmps8
      go_wp2_with fail
      refine (shown_any _).mono ?_
      rintro e w1 ⟨rfl, hb1⟩
      have HB1 := Lib.hid (below_trans HB0.out hb1)
      have HE1 := Lib.hid (HD3.out.below hb1)
      obtain ⟨z0, z1, z2, z3⟩ := HE1.out.four
      clear hb1 HD3 HB0
      go_wp2_with fail
      refine (HFEW.out _ HB1.out).mono ?_
      rintro e w2 ⟨rfl, hb2⟩
      have HB2 := Lib.hid (below_trans HB1.out hb2)
      have HE2 := Lib.hid (HE1.out.below hb2)
      clear z0 z1 z2 z3
      obtain ⟨z0, z1, z2, z3⟩ := HE2.out.four
      clear hb2 HE1 HB1
      go_wp2_with fail
      refine (HWR.out _ _ _ _ _ HE2.out.a).mono ?_
      rintro e w3 ⟨kA1, kc1, wA1, wc1, rfl, hat, hb3⟩
      have HD9 := Lib.hid (DB.new hat sz n m off)
      have HB3 := Lib.hid (below_trans (below_trans HB2.out hb3) (alloc_below w3 (.cells #[.int .i64 sz, .slice kA1 n kc1, .slice wA1 m wc1, .bool off] 25)))
      clear hat hb3 z0 z1 z2 z3 HB2 HE2
      go_wp2_with fail
      refine (HW2.out _ _ _ _ _ HD9.out.a).mono ?_
      rintro e w4 ⟨kA2, kc2, wA2, mm2, wc2, of2, G2, rfl, hq, hb4⟩
      have HB4 := Lib.hid (below_trans (below_trans HB3.out hb4) (alloc_below w4 (.cells #[.int .i64 sz, .slice kA2 n kc2, .slice wA2 mm2 wc2, .bool of2] 25)))
      clear hb4 HB3 HD9
      go_wp2
      go_ret
      exact ⟨by simp, HB4.out⟩
  · obtain rfl : F = false := by cases F <;> simp_all
    clear hF hT hn hm hs ho hA
    go_enter Try.func8, Try.ntmps8
    go_wp2_with fail
    refine (shown_any _).mono ?_
    rintro e w1 ⟨rfl, hb1⟩
    have HB1 := Lib.hid (below_trans HB0.out hb1)
    have HE1 := Lib.hid (HD3.out.below hb1)
    obtain ⟨z0, z1, z2, z3⟩ := HE1.out.four
    clear hb1 HD3 HB0
    go_wp2_with fail
    refine (HFEW.out _ HB1.out).mono ?_
    rintro e w2 ⟨rfl, hb2⟩
    have HB2 := Lib.hid (below_trans HB1.out hb2)
    clear hb2 z0 z1 z2 z3
    go_wp2
    go_ret
    exact ⟨rfl, HB2.out⟩

set_option maxRecDepth 100000 in
theorem lifted (os : Os) (started : os.Started) (H : Type) (enc : TypeId × Value → H) :
    ReturnsInHanded {} Try.checked os 8 .any (Rows.diskLastSpec.pre6 enc Try.prog Try.f8 Rows.diskLastRow.domain false) (Rows.diskLastSpec.post enc Try.prog Try.f8 false true false false) := by
  refine returnsInHanded_of_change (C := Try.checked) own started (by kernel_rfl) Try.func8
    (ChangeSpec.witness6 (enc := enc) (C := Try.checked) false ⟨#[], #[.agg #[.int .i64 0, .slice none 0 0, .slice none 0 0, .bool false, .int .i64 0, .string ByteArray.empty, .string ByteArray.empty]], []⟩ 8 (by kernel_rfl) (by kernel_rfl) (by kernel_rfl) (by kernel_rfl)) ?_
  intro W base args ds gs before hval0 hW hcnd _
  have hval : ∀ (j : Nat) t v, Try.f8.params[j]? = some t → args[j]? = some v → Value.okWide Try.prog W .any base t v := hval0
  have hW' := hW
  obtain ⟨p, q, hA0, hV, rfl, hfz, hnd⟩ := hW
  have hA : DataW.TrodAll enc Try.prog W 0 (fun _ => true) true Try.f8.params.toList args.toList ds p := hA0
  rw [Try.params8] at hA hval
  obtain ⟨v0, vs0, d0, ds0, p0, q0, hargs, rfl, rfl, h0, r0⟩ := trodAll_cons hA
  obtain ⟨rfl, rfl, rfl⟩ := trodAll_nil r0
  obtain rfl : args = #[v0] := by cases args; simp_all
  obtain ⟨rfl, rfl⟩ := trodVars_none hV
  have lt0 : ∀ x ∈ p0, x.block < W.heap.size := by obtain ⟨m, hm⟩ := h0; exact DataW.trod_lt m _ _ _ hm
  obtain ⟨d, kA, kc, wA, wc, n1, s2, s3, rfl, hat⟩ := open_last (hval 0 59 v0 rfl rfl) h0
  clear hA0 hval0
  refine (walk d n1 s2 s3 kA kc wA wc W hat).mono fun e W' ⟨he, bel⟩ => ?_
  subst he
  exact ⟨_, rfl, _, _, _, [], _, [], hW', trodAll_mk1 (shut_bool Try.underlying4 _), (trodAll_cons_mk (Below.trod laidOut (by kernel_rfl) (of_decide_eq_true (by kernel_rfl)) h0 bel lt0) trodAll_mk0), rfl, bel.frame _, fun h => by cases h⟩

theorem over : Rows.diskLastRow.holds Try.pinned (OpenSpec.ofChange Rows.diskLastSpec) :=
  OpenClaim.holds_of_wide 8 Try.f8 rfl rfl rfl rfl rfl rfl rfl ⟨rfl, rfl, rfl, rfl, rfl⟩ rfl rfl rfl rfl rfl (by kernel_rfl) Try.func8 (by kernel_rfl)
    (of_decide_eq_true (by kernel_rfl)) (by unfold Func.isWrapper; first | (rw [if_pos (by decide +kernel)]; kernel_rfl) | (rw [if_neg (by decide +kernel)]; exact ⟨rfl, rfl⟩))
    (fun os started H enc _ => lifted os started H enc)

theorem proved : Rows.DiskLastSaid := over
#print axioms proved
end Go.Proofs.Ytpkoonokagchgaa.diskLast
