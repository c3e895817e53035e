/- What Read of package disk answers of a right disk: the image's sector, or why not. Conditions: a right disk of at most 1000000 writes. -/
import Derived.Test.YtpkoonokagchgaaImage
namespace Go.Proofs.Ytpkoonokagchgaa
open Go.ChangeShapes Go.WideShapes Go.ChangeAt Go.RowKit Go.Shelf

theorem done_one (d : Dk) (hd : Ok d) (kA : Option Addr) (kc : Nat) (wA : Option Addr) (wc : Nat) (w : World) (hA : At w d kA kc wA wc) (hm : d.ws.length ≤ 1000000) (b o k : Nat) (hk : k < d.ks.length) (hkA : kA = some ⟨b, o, none⟩) (Bb Bp : Nat) (hb : Bx w Bb 23 #[.slice wA d.ws.length wc]) (hp : Bx w Bp 3 #[.int .i64 (k : Int)]) :
    Calls Try.prog 40 #[.slice (some ⟨b, o + k, none⟩) 1 1, .func (.func 56) #[] #[.pointer (some ⟨Bb, 0, none⟩), .pointer (some ⟨Bp, 0, none⟩)]] w fun e w' => ∃ A' c', e = .returned (.slice A' 1 c') ∧ RowT w' A' c' [(imageD d).getD k ByteArray.empty] ∧ Below w.heap.size w w' := by
  obtain ⟨x, hx⟩ : ∃ x, d.ks[k]? = some x := ⟨_, List.getElem?_eq_getElem hk⟩
  obtain ⟨y, hy, hy2⟩ := image_one (z := d.sz.toNat) hd.fit hx
  have hyd : (imageD d).getD k ByteArray.empty = y := by
    unfold imageD
    rw [List.getD_eq_getElem?_getD, hy]
    rfl
  obtain ⟨b', o', h1, h2, h3⟩ := hA.rowT.cell hk
  rw [hkA] at h1
  simp only [Option.some.injEq, Addr.mk.injEq, and_true] at h1
  obtain ⟨rfl, rfl⟩ := h1
  have hrow : RowT w (some ⟨b, o + k, none⟩) 1 [x] := ⟨fun _ => ⟨b, o + k, rfl, h2, fun j u hu => by
    cases j with
    | zero =>
      simp only [tcells, List.map_cons, List.getElem?_cons_zero, Option.some.injEq] at hu
      subst hu
      exact h3 k x hx
    | succ j => simp [tcells] at hu⟩, fun h => by simp at h, Nat.le_refl _⟩
  rw [hyd, ← hy2]
  exact (done_any 56 _ (enters_of Try.func56 (by kernel_rfl) rfl) (toOne d.ws (k : Int)) [x] (some ⟨b, o + k, none⟩) 1 w hrow (by simp) (by simp) (fun z hz => hd.sized z (by
      simp only [List.mem_singleton] at hz
      subst hz
      exact List.mem_of_getElem? hx)) (toOne_fit hd.fit _) fun W hW =>
    toOne_in 7 (by omega) (k : Int) Bb Bp w.heap.size wA wc d.ws W (hb.below hW) (hp.below hW) hb.lt hp.lt (hA.rowW.below hW) (fun hl => hA.rowW.blk hl) hW.size hm).mono fun e w' ⟨A', c', q1, q2, _, q4⟩ => ⟨A', c', q1, q2, q4⟩

set_option maxHeartbeats 4000000 in
set_option maxRecDepth 100000 in
theorem read_any (d : Dk) (hd : Ok d) (p : Int) (kA : Option Addr) (kc : Nat) (wA : Option Addr) (wc : Nat) (w : World) (hA : At w d kA kc wA wc) (hm : d.ws.length ≤ 1000000) :
    Calls Try.prog 16 #[dval d kA kc wA wc, .int .i64 p] w fun e w' => e = .returned (.tuple #[.string (readT d p), .int .i64 (reachE d.off d.ks.length p)]) ∧ Below w.heap.size w w' := by
  have HR : Hid (∀ W, Calls Try.prog 39 #[dval d kA kc wA wc, .int .i64 p] W fun e w' => e = .returned (.int .i64 (reachE d.off d.ks.length p)) ∧ Below W.heap.size W w') := Lib.hid fun W => reach_any d kA kc wA wc p W
  by_cases hz : reachE d.off d.ks.length p = 0
  · have hoff : d.off = false := by
      cases h : d.off
      · rfl
      · rw [h] at hz; simp [reachE] at hz
    have hh : hasB d.ks.length p = true := by
      cases h : hasB d.ks.length p
      · rw [hoff, reachE, h] at hz; simp at hz
      · rfl
    obtain ⟨q0, q1⟩ := hasB_iff.1 hh
    obtain ⟨k, rfl⟩ : ∃ k : Nat, p = (k : Int) := ⟨p.toNat, by omega⟩
    have hk : k < d.ks.length := by omega
    obtain ⟨b, o, hkA, h2, h3⟩ := hA.rowT.cell hk
    have HD : Hid (∀ W Bb Bp, Below w.heap.size w W → Bx W Bb 23 #[.slice wA d.ws.length wc] → Bx W Bp 3 #[.int .i64 (k : Int)] → Calls Try.prog 40 #[.slice (some ⟨b, o + k, none⟩) 1 1, .func (.func 56) #[] #[.pointer (some ⟨Bb, 0, none⟩), .pointer (some ⟨Bp, 0, none⟩)]] W fun e w' => ∃ A' c', e = .returned (.slice A' 1 c') ∧ RowT w' A' c' [(imageD d).getD k ByteArray.empty] ∧ Below W.heap.size W w') :=
      Lib.hid fun W Bb Bp hW hb hp => done_one d hd kA kc wA wc W (hA.below hW) hm b o k hk hkA Bb Bp hb hp
    have hkc : d.ks.length ≤ kc := hA.kl
    have ht : readT d (k : Int) = (imageD d).getD k ByteArray.empty := by
      unfold readT
      rw [hoff, hh]
      simp
    rw [ht]
    rw [hz] at HR ⊢
    have hn2 := hd.n2
    have HKC := Lib.hid hkc
    clear ht hz hh hA hd h2 h3 q0 q1 hm
    subst hkA
    unfold dval at *
    rw [hoff] at *
    generalize (imageD d).getD k ByteArray.empty = y at *
    generalize d.ks.length = n at *
    generalize d.ws.length = m at *
    generalize d.sz = sz at *
    go_enter Try.func16, Try.ntmps16
    go_wp2_with fail
    refine (HR.out _).mono ?_
    rintro e w1 ⟨rfl, hb1⟩
    have X1 := (Bx.new w 25 #[.int .i64 sz, .slice (some ⟨b, o, none⟩) n kc, .slice wA m wc, .bool false]).below hb1
    obtain ⟨x0, x1, x2, x3⟩ := X1.four
    have HB1 := Lib.hid (below_trans (alloc_below w _) hb1)
    clear hb1 X1
    go_wp2_with fail
    refine (writesTo_any _ _ _ _ _).mono ?_
    rintro e w2 ⟨Bb, Bp, rfl, hbb, hbp, hb2⟩
    have B2 := below_trans HB1.out hb2
    have HB2 := Lib.hid B2
    clear hb2 x0 x1 x2 x3
    go_wp2_with fail
    refine (HD.out _ _ _ B2 hbb hbp).mono ?_
    rintro e w3 ⟨A', c', rfl, hr, hb3⟩
    obtain ⟨b3, o3, rfl, hl3, hc3⟩ := hr.cell (j := 0) (by simp)
    have c0 := hc3 0 y rfl
    rw [Nat.add_zero] at c0
    have HB3 := Lib.hid (below_trans HB2.out hb3)
    clear hr hb3 hc3 hbb hbp B2
    go_wp2
    exact bodyPost_ret (v := .tuple #[.string y, .int .i64 0]) (by simp [results, Try.results16, go_sem]) rfl ⟨rfl, HB3.out⟩
  · have ht : readT d p = ByteArray.empty := by
      unfold readT
      unfold reachE at hz
      by_cases h1 : d.off = true
      · rw [if_pos h1]
      · rw [if_neg h1] at hz ⊢
        by_cases h2 : hasB d.ks.length p = true
        · rw [if_pos h2] at hz; exact absurd rfl hz
        · rw [if_neg h2]
    rw [ht]
    clear ht hA hd hm
    unfold dval at *
    generalize reachE d.off d.ks.length p = E at *
    generalize d.ks.length = n at *
    generalize d.ws.length = m at *
    generalize d.sz = sz at *
    generalize d.off = off at *
    go_enter Try.func16, Try.ntmps16
    go_wp2_with fail
    refine (HR.out _).mono ?_
    rintro e w1 ⟨rfl, hb1⟩
    have HB1 := Lib.hid (below_trans (alloc_below w _) hb1)
    clear hb1
    go_wp2
    exact bodyPost_ret (v := .tuple #[.string ByteArray.empty, .int .i64 E]) (by simp [results, Try.results16, go_sem, ByteArray.empty, ByteArray.emptyWithCapacity]; rfl) rfl ⟨rfl, HB1.out⟩
end Go.Proofs.Ytpkoonokagchgaa
