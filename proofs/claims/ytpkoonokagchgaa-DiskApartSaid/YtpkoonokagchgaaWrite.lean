/- What Write of package disk answers of a disk: the disk with a write more, or a copy of it and why not. Conditions: at most 1000000 sectors and writes, power on where it says so. -/
import Derived.Test.YtpkoonokagchgaaCut
namespace Go.Proofs.Ytpkoonokagchgaa
open Go.ChangeShapes Go.WideShapes Go.ChangeAt Go.RowKit Go.Shelf

/-- Why a disk isn't written to, or 0. -/
def writeE (d : Dk) (p : Int) (s : ByteArray) : Int :=
  if d.off then 14 else if hasB d.ks.length p then (if withinB s.size 1 d.sz then 0 else 1) else 5

theorem writeE_ok {d : Dk} {p : Int} {s : ByteArray} (h : writeE d p s = 0) : d.off = false ∧ hasB d.ks.length p = true ∧ withinB s.size 1 d.sz = true := by
  unfold writeE at h
  cases h1 : d.off
  · cases h2 : hasB d.ks.length p
    · rw [h1, h2] at h; simp at h
    · cases h3 : withinB s.size 1 d.sz
      · rw [h1, h2, h3] at h; simp at h
      · exact ⟨rfl, rfl, rfl⟩
  · rw [h1] at h; simp at h

/-- The copy, wherever it is asked for. -/
theorem copyOf_at (d : Dk) (kA : Option Addr) (kc : Nat) (wA : Option Addr) (wc : Nat) (w : World) (hA : At w d kA kc wA wc) (hk : d.ks.length ≤ 1000000) (hm : d.ws.length ≤ 1000000) (n m : Nat) (hn : d.ks.length = n) (hmm : d.ws.length = m) (sz : Int) (hs : d.sz = sz) (off : Bool) (ho : d.off = off) :
    ∀ W, Below w.heap.size w W → Calls Try.prog 42 #[.agg #[.int .i64 sz, .slice kA n kc, .slice wA m wc, .bool off]] W fun e w' => ∃ kA' kc' wA' wc', e = .returned (.agg #[.int .i64 sz, .slice kA' n kc', .slice wA' m wc', .bool off]) ∧ At w' d kA' kc' wA' wc' ∧ NewA W kA' ∧ NewA W wA' ∧ Below W.heap.size W w' := by
  intro W hW
  subst hs
  subst ho
  exact copyOf_four d kA kc wA wc W (hA.below hW) hk hm n m hn hmm

set_option maxHeartbeats 1000000 in
set_option maxRecDepth 100000 in
theorem write_no (d : Dk) (p : Int) (s : ByteArray) (kA : Option Addr) (kc : Nat) (wA : Option Addr) (wc : Nat) (w : World) (hA : At w d kA kc wA wc) (hk : d.ks.length ≤ 1000000) (hm : d.ws.length ≤ 1000000) (hE : writeE d p s ≠ 0) :
    Calls Try.prog 18 #[dval d kA kc wA wc, .int .i64 p, .string s] w fun e w' => ∃ kA' kc' wA' wc', e = .returned (.tuple #[dval d kA' kc' wA' wc', .int .i64 (writeE d p s)]) ∧ At w' d kA' kc' wA' wc' ∧ Below w.heap.size w w' := by
  have HR : Hid (∀ W, Calls Try.prog 39 #[dval d kA kc wA wc, .int .i64 p] W fun e w' => e = .returned (.int .i64 (reachE d.off d.ks.length p)) ∧ Below W.heap.size W w') := Lib.hid fun W => reach_any d kA kc wA wc p W
  have HWI : Hid (∀ W, Calls Try.prog 36 #[.int .i64 (s.size : Int), .int .i64 1, .int .i64 d.sz] W fun e w' => e = .returned (.bool (withinB s.size 1 d.sz)) ∧ W = w') := Lib.hid fun W => within_any _ _ _ W
  have HC := Lib.hid (copyOf_at d kA kc wA wc w hA hk hm _ _ rfl rfl _ rfl _ rfl)
  by_cases hz : reachE d.off d.ks.length p = 0
  · have hoff : d.off = false := by
      cases h : d.off
      · rfl
      · rw [h] at hz; simp [reachE] at hz
    have hh : hasB d.ks.length p = true := by
      cases h : hasB d.ks.length p
      · rw [hoff, reachE, h] at hz; simp at hz
      · rfl
    have hwi : withinB s.size 1 d.sz = false := by
      cases h : withinB s.size 1 d.sz
      · rfl
      · exact absurd (by unfold writeE; rw [hoff, hh, h]; rfl) hE
    have hEE : writeE d p s = 1 := by
      unfold writeE
      rw [hoff, hh, hwi]
      rfl
    rw [hEE]
    rw [hz] at HR
    rw [hwi] at HWI
    clear hA hk hm hE hEE hz hh hwi
    unfold dval at *
    rw [hoff] at HR HC ⊢
    generalize d.ks.length = n at *
    generalize d.ws.length = m at *
    generalize d.sz = sz at *
    clear hoff
    go_enter Try.func18, Try.ntmps18
    go_wp2_with fail
    obtain ⟨V, hV, X1, X2, B1⟩ := two_boxes w (.int .i64 sz) (.slice kA n kc) (.slice wA m wc) (.bool false)
    rw [hV]
    clear hV
    have HX1 := Lib.hid X1
    have HX2 := Lib.hid X2
    have HB1 := Lib.hid B1
    clear X1 X2 B1
    refine (HR.out _).mono ?_
    rintro e w1 ⟨rfl, hb1⟩
    have z := HX1.out.below hb1
    obtain ⟨z0, z1, z2, z3⟩ := z.four
    have HX3 := Lib.hid (HX2.out.below hb1)
    have HB2 := Lib.hid (below_trans HB1.out hb1)
    clear hb1 HX1 HX2 HB1 z
    go_wp2_with fail
    refine (HWI.out _).mono ?_
    rintro e w2 ⟨rfl, rfl⟩
    go_wp2_with fail
    refine (HC.out _ HB2.out).mono ?_
    rintro e w3 ⟨kA', kc', wA', wc', rfl, hat, hn1, hn2, hb⟩
    obtain ⟨y0, y1, y2, y3⟩ := (HX3.out.below (W' := w3) hb).four
    have y4 := (HX3.out.below (W' := w3) hb).frozen
    have HAT := Lib.hid (hat.four (r := w.heap.size + 1) (hn1.ne HX3.out.lt) (hn2.ne HX3.out.lt) (.int .i64 sz) (.slice kA' n kc') (.slice wA' m wc') (.bool false))
    have HBB := Lib.hid (four_below (r := w.heap.size + 1) (below_trans HB2.out hb) (by omega) (.int .i64 sz) (.slice kA' n kc') (.slice wA' m wc') (.bool false))
    clear hat hn1 hn2 hb z0 z1 z2 z3
    go_wp2_with fail
    exact bodyPost_ret (v := .tuple #[.agg #[.int .i64 sz, .slice kA' n kc', .slice wA' m wc', .bool false], .int .i64 1]) (by simp [results, Try.results18, go_sem, *]) rfl ⟨kA', kc', wA', wc', rfl, HAT.out, HBB.out⟩
  · have hEE : writeE d p s = reachE d.off d.ks.length p := by
      unfold writeE
      unfold reachE at hz ⊢
      cases h : d.off
      · cases h2 : hasB d.ks.length p
        · rfl
        · rw [h, h2] at hz; exact absurd rfl hz
      · rfl
    rw [hEE]
    clear hA hk hm hE hEE HWI
    unfold dval at *
    generalize reachE d.off d.ks.length p = E at *
    generalize d.ks.length = n at *
    generalize d.ws.length = m at *
    generalize d.sz = sz at *
    generalize d.off = off at *
    go_enter Try.func18, Try.ntmps18
    go_wp2_with fail
    obtain ⟨V, hV, X1, X2, B1⟩ := two_boxes w (.int .i64 sz) (.slice kA n kc) (.slice wA m wc) (.bool off)
    rw [hV]
    clear hV
    have HX1 := Lib.hid X1
    have HX2 := Lib.hid X2
    have HB1 := Lib.hid B1
    clear X1 X2 B1
    refine (HR.out _).mono ?_
    rintro e w1 ⟨rfl, hb1⟩
    have z := HX1.out.below hb1
    obtain ⟨z0, z1, z2, z3⟩ := z.four
    have HX3 := Lib.hid (HX2.out.below hb1)
    have HB2 := Lib.hid (below_trans HB1.out hb1)
    clear hb1 HX1 HX2 HB1 z
    go_wp2_with fail
    refine (HC.out _ HB2.out).mono ?_
    rintro e w3 ⟨kA', kc', wA', wc', rfl, hat, hn1, hn2, hb⟩
    obtain ⟨y0, y1, y2, y3⟩ := (HX3.out.below (W' := w3) hb).four
    have y4 := (HX3.out.below (W' := w3) hb).frozen
    have HAT := Lib.hid (hat.four (r := w.heap.size + 1) (hn1.ne HX3.out.lt) (hn2.ne HX3.out.lt) (.int .i64 sz) (.slice kA' n kc') (.slice wA' m wc') (.bool off))
    have HBB := Lib.hid (four_below (r := w.heap.size + 1) (below_trans HB2.out hb) (by omega) (.int .i64 sz) (.slice kA' n kc') (.slice wA' m wc') (.bool off))
    clear hat hn1 hn2 hb z0 z1 z2 z3
    go_wp2_with fail
    exact bodyPost_ret (v := .tuple #[.agg #[.int .i64 sz, .slice kA' n kc', .slice wA' m wc', .bool off], .int .i64 E]) (by simp [results, Try.results18, go_sem, *]) rfl ⟨kA', kc', wA', wc', rfl, HAT.out, HBB.out⟩
end Go.Proofs.Ytpkoonokagchgaa
