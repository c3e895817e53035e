/- What Cut of package disk answers: the disk without power, its lists its own. Conditions: at most 1000000 sectors and writes. -/
import Derived.Test.YtpkoonokagchgaaSync
import Derived.Deep.DeepCutAuto
namespace Go.Proofs.Ytpkoonokagchgaa
open Go.ChangeShapes Go.WideShapes Go.ChangeAt Go.RowKit Go.Shelf

theorem Bx.put4 {W : World} {B : Nat} {t : TypeId} {a b c d : Value} (h : Bx W B t #[a, b, c, d]) (v0 v1 v2 v3 : Value) :
    Bx ((((W.setCell ⟨B, 0, none⟩ v0).setCell ⟨B, 1, none⟩ v1).setCell ⟨B, 2, none⟩ v2).setCell ⟨B, 3, none⟩ v3) B t #[v0, v1, v2, v3] :=
  (((h.set 0 v0).set 1 v1).set 2 v2).set 3 v3
theorem Bx.other4 {W : World} {B : Nat} {t : TypeId} {cs : Array Value} (h : Bx W B t cs) {r : Nat} (hr : B ≠ r) (v0 v1 v2 v3 : Value) :
    Bx ((((W.setCell ⟨r, 0, none⟩ v0).setCell ⟨r, 1, none⟩ v1).setCell ⟨r, 2, none⟩ v2).setCell ⟨r, 3, none⟩ v3) B t cs :=
  (((h.other (a := ⟨r, 0, none⟩) hr v0).other (a := ⟨r, 1, none⟩) hr v1).other (a := ⟨r, 2, none⟩) hr v2).other (a := ⟨r, 3, none⟩) hr v3

set_option maxHeartbeats 4000000 in
set_option maxRecDepth 100000 in
theorem cut_any (d : Dk) (kA : Option Addr) (kc : Nat) (wA : Option Addr) (wc : Nat) (w : World) (hA : At w d kA kc wA wc) (hk : d.ks.length ≤ 1000000) (hm : d.ws.length ≤ 1000000) :
    Calls Try.prog 24 #[dval d kA kc wA wc] w fun e w' => ∃ kA' kc' wA' wc', e = .returned (dval (cutD d) kA' kc' wA' wc') ∧ At w' (cutD d) kA' kc' wA' wc' ∧ Below w.heap.size w w' := by
  unfold dval
  obtain ⟨n, hn⟩ : ∃ n, d.ks.length = n := ⟨_, rfl⟩
  obtain ⟨m, hmm⟩ : ∃ m, d.ws.length = m := ⟨_, rfl⟩
  have HI : Hid (∀ W, Below w.heap.size w W → Calls Try.prog 42 #[.agg #[.int .i64 d.sz, .slice kA n kc, .slice wA m wc, .bool d.off]] W fun e w' => ∃ kA' kc' wA' wc', e = .returned (.agg #[.int .i64 d.sz, .slice kA' n kc', .slice wA' m wc', .bool d.off]) ∧ At w' (cutD d) kA' kc' wA' wc' ∧ NewA W kA' ∧ NewA W wA' ∧ Below W.heap.size W w') := Lib.hid fun W hW => (copyOf_four d kA kc wA wc W (hA.below hW) hk hm n m hn hmm).mono fun e w' ⟨a, b, c, f, h1, h2, h3⟩ => ⟨a, b, c, f, h1, ⟨h2.ks, h2.ws, h2.kn, h2.wn, h2.kl, h2.wl⟩, h3⟩
  clear hA hk hm
  show Calls Try.prog 24 _ w fun e w' => ∃ kA' kc' wA' wc', e = .returned (.agg #[.int .i64 d.sz, .slice kA' d.ks.length kc', .slice wA' d.ws.length wc', .bool true]) ∧ At w' (cutD d) kA' kc' wA' wc' ∧ Below w.heap.size w w'
  rw [hn, hmm]
  clear hn hmm
  generalize cutD d = d' at *
  generalize d.sz = sz at *
  generalize d.off = off at *
  go_enter Try.func24, Try.ntmps24
  go_wp2_with fail
  obtain ⟨V, hV, X1, X2, B1⟩ := two_boxes w (.int .i64 sz) (.slice kA n kc) (.slice wA m wc) (.bool off)
  rw [hV]
  clear hV
  have HX1 := Lib.hid X1
  have HX2 : Hid (Bx V (w.heap.size + 1) 25 #[.int .i64 0, .slice none 0 0, .slice none 0 0, .bool false]) := Lib.hid X2
  have HB1 := Lib.hid B1
  clear X1 X2 B1
  refine (HI.out _ HB1.out).mono ?_
  rintro e w1 ⟨kA', kc', wA', wc', rfl, hat, hn1, hn2, hb⟩
  have z := HX1.out.below (W' := w1) hb
  obtain ⟨z0, z1, z2, z3⟩ := z.four
  have z4 := z.frozen
  have HY1 := Lib.hid (z.put4 (.int .i64 sz) (.slice kA' n kc') (.slice wA' m wc') (.bool off))
  have HY2 := Lib.hid ((HX2.out.below (W' := w1) hb).other4 (r := w.heap.size) (by omega) (.int .i64 sz) (.slice kA' n kc') (.slice wA' m wc') (.bool off))
  have HA1 := Lib.hid (hat.four (r := w.heap.size) (hn1.ne HX1.out.lt) (hn2.ne HX1.out.lt) (.int .i64 sz) (.slice kA' n kc') (.slice wA' m wc') (.bool off))
  have HBB := Lib.hid (four_below (r := w.heap.size) (below_trans HB1.out hb) (Nat.le_refl _) (.int .i64 sz) (.slice kA' n kc') (.slice wA' m wc') (.bool off))
  have HN1 := Lib.hid (hn1.ne HX1.out.lt)
  have HN2 := Lib.hid (hn2.ne HX1.out.lt)
  have HM1 := Lib.hid (hn1.ne HX2.out.lt)
  have HM2 := Lib.hid (hn2.ne HX2.out.lt)
  clear z hat hn1 hn2 hb HX1 HX2 HI HB1
  go_upto_region 2 with fail
  obtain ⟨V2, hV2⟩ : ∃ V2, ((((w1.setCell ⟨w.heap.size, 0, none⟩ (.int .i64 sz)).setCell ⟨w.heap.size, 1, none⟩ (.slice kA' n kc')).setCell ⟨w.heap.size, 2, none⟩ (.slice wA' m wc')).setCell ⟨w.heap.size, 3, none⟩ (.bool off)) = V2 := ⟨_, rfl⟩
  rw [hV2] at HY1 HY2 HA1 HBB ⊢
  have q0 := HY1.out.cell 0 (v := .int .i64 sz) rfl
  have q1 := HY1.out.cell 1 (v := .slice kA' n kc') rfl
  have q2 := HY1.out.cell 2 (v := .slice wA' m wc') rfl
  have q3 := HY1.out.cell 3 (v := .bool off) rfl
  have q4 := HY1.out.frozen
  have HZ1 := Lib.hid (HY1.out.set 3 (.bool true))
  have HZ2 := Lib.hid (HY2.out.other (a := ⟨w.heap.size, 3, none⟩) (by simp) (.bool true))
  have HA2 := Lib.hid (at_of (HA1.out.rowT.set (a := ⟨w.heap.size, 3, none⟩) HN1.out (.bool true)) (HA1.out.rowW.set (a := ⟨w.heap.size, 3, none⟩) HN2.out (.bool true)))
  have HB2 := Lib.hid (HBB.out.setCell (p := ⟨w.heap.size, 3, none⟩) (Nat.le_refl _) (.bool true))
  clear z0 z1 z2 z3 z4 HY1 HY2 HA1 HBB hV2
  go_upto_region 3 with fail
  obtain ⟨V3, hV3⟩ : ∃ V3, V2.setCell ⟨w.heap.size, 3, none⟩ (.bool true) = V3 := ⟨_, rfl⟩
  rw [hV3] at HZ1 HZ2 HA2 HB2 ⊢
  clear q0 q1 q2 q3 q4 hV3
  have q0 := HZ1.out.cell 0 (v := .int .i64 sz) rfl
  have q1 := HZ1.out.cell 1 (v := .slice kA' n kc') rfl
  have q2 := HZ1.out.cell 2 (v := .slice wA' m wc') rfl
  have q3 := HZ1.out.cell 3 (v := .bool true) rfl
  obtain ⟨y0, y1, y2, y3⟩ := HZ2.out.four
  have y4 := HZ2.out.frozen
  have HAT := Lib.hid (HA2.out.four (r := w.heap.size + 1) HM1.out HM2.out (.int .i64 sz) (.slice kA' n kc') (.slice wA' m wc') (.bool true))
  have HB3 := Lib.hid (four_below (r := w.heap.size + 1) HB2.out (by omega) (.int .i64 sz) (.slice kA' n kc') (.slice wA' m wc') (.bool true))
  clear HZ1 HZ2 HA2 HB2
  go_wp2_with fail
  exact bodyPost_ret (v := .agg #[.int .i64 sz, .slice kA' n kc', .slice wA' m wc', .bool true]) (by simp [results, Try.results24, go_sem, *]) rfl ⟨kA', kc', wA', wc', rfl, HAT.out, HB3.out⟩
end Go.Proofs.Ytpkoonokagchgaa
