/- What Sync and Cut of package disk answer. Conditions: a right disk of at most 1000000 writes (Sync), at most 1000000 sectors and writes (Cut). -/
import Derived.Test.YtpkoonokagchgaaCopy
namespace Go.Proofs.Ytpkoonokagchgaa
open Go.ChangeShapes Go.WideShapes Go.ChangeAt Go.RowKit Go.Shelf

set_option maxHeartbeats 4000000 in
set_option maxRecDepth 100000 in
theorem sync_on (d : Dk) (hd : Ok d) (kA : Option Addr) (kc : Nat) (wA : Option Addr) (wc : Nat) (w : World) (hA : At w d kA kc wA wc) (hm : d.ws.length ≤ 1000000) (ho : d.off = false) :
    Calls Try.prog 20 #[dval d kA kc wA wc] w fun e w' => ∃ A' c', e = .returned (.tuple #[.agg #[.int .i64 d.sz, .slice A' d.ks.length c', .slice none 0 0, .bool false], .int .i64 0]) ∧ RowT w' A' c' (imageD d) ∧ NewA w A' ∧ Below w.heap.size w w' := by
  have HI : Hid (∀ W, Below w.heap.size w W → Calls Try.prog 27 #[dval d kA kc wA wc] W fun e w' => ∃ A' c', e = .returned (.slice A' d.ks.length c') ∧ RowT w' A' c' (imageD d) ∧ NewA W A' ∧ Below W.heap.size W w') := Lib.hid fun W hW => image_any d hd kA kc wA wc _ (hA.below hW) hm
  clear hA hd hm
  unfold dval at *
  rw [ho] at *
  generalize d.ks.length = n at *
  generalize d.ws.length = m at *
  generalize imageD d = L at *
  generalize d.sz = sz at *
  go_enter Try.func20, Try.ntmps20
  go_wp2_with fail
  obtain ⟨V, hV, X1, X2, B1⟩ := two_boxes w (.int .i64 sz) (.slice kA n kc) (.slice wA m wc) (.bool false)
  rw [hV]
  clear hV
  obtain ⟨x0, x1, x2, x3⟩ := X1.four
  have S0 : V.drew.cell? ⟨w.heap.size, 0, none⟩ = some (.int .i64 sz) ∧ V.drew.cell? ⟨w.heap.size, 1, none⟩ = some (.slice kA n kc) ∧ V.drew.cell? ⟨w.heap.size, 2, none⟩ = some (.slice wA m wc) ∧ V.drew.cell? ⟨w.heap.size, 3, none⟩ = some (.bool false) ∧ Below w.heap.size w V.drew := ⟨x0, x1, x2, x3, B1.drew⟩
  have HX2 : Hid (Bx V.drew (w.heap.size + 1) 25 #[.int .i64 0, .slice none 0 0, .slice none 0 0, .bool false]) := Lib.hid X2
  clear X1 X2 B1 x0 x1 x2 x3
  go_region_held3 (fun W => W.cell? ⟨w.heap.size, 0, none⟩ = some (.int .i64 sz) ∧ W.cell? ⟨w.heap.size, 1, none⟩ = some (.slice kA n kc) ∧ W.cell? ⟨w.heap.size, 2, none⟩ = some (.slice wA m wc) ∧ W.cell? ⟨w.heap.size, 3, none⟩ = some (.bool false) ∧ Below w.heap.size w W)
    (first
      | assumption
      | exact next5' S0 (by assumption)
      | exact next5' (by assumption) (by assumption)
      | exact S0
      | (refine ⟨?_, ?_, ?_, ?_, ?_⟩; (simp [go_sem, *]); (simp [go_sem, *]); (simp [go_sem, *]); (simp [go_sem, *]); (exact four_below (And.right (And.right (And.right (And.right (by assumption))))) (by omega) _ _ _ _)))
    (first
      | (go_at_call 27; (with_reducible refine (HI.out _ (S0).2.2.2.2).mono ?_); rintro e w' ⟨A', c', rfl, hr, hnw, hb'⟩; obtain ⟨y0, y1, y2, y3⟩ := (HX2.out.below (W' := w') hb').four; have y4 := (HX2.out.below (W' := w') hb').frozen))
  rename_i hS
  have B9 := hS.2.2.2.2
  have N9 : NewA w A' := hnw.mono S0.2.2.2.2.size
  have R9 := hr.four (hnw.ne HX2.out.lt) (.int .i64 sz) (.slice A' n c') (.slice none 0 0) (.bool false)
  go_wp2_with fail
  exact bodyPost_ret (v := .tuple #[.agg #[.int .i64 sz, .slice A' n c', .slice none 0 0, .bool false], .int .i64 0]) (by simp [results, Try.results20, go_sem, *]) rfl ⟨A', c', rfl, R9, N9, B9⟩

/-- The copy, as it is asked for: its value is a struct of four. -/
theorem copyOf_four (d : Dk) (kA : Option Addr) (kc : Nat) (wA : Option Addr) (wc : Nat) (w : World) (hA : At w d kA kc wA wc) (hk : d.ks.length ≤ 1000000) (hm : d.ws.length ≤ 1000000) (n m : Nat) (hn : d.ks.length = n) (hmm : d.ws.length = m) :
    Calls Try.prog 42 #[.agg #[.int .i64 d.sz, .slice kA n kc, .slice wA m wc, .bool d.off]] w fun e w' => ∃ kA' kc' wA' wc', e = .returned (.agg #[.int .i64 d.sz, .slice kA' n kc', .slice wA' m wc', .bool d.off]) ∧ At w' d kA' kc' wA' wc' ∧ NewA w kA' ∧ NewA w wA' ∧ Below w.heap.size w w' := by
  subst hn
  subst hmm
  exact copyOf_any d kA kc wA wc w hA hk hm

theorem At.four {W : World} {d : Dk} {kA : Option Addr} {kc : Nat} {wA : Option Addr} {wc : Nat} (h : At W d kA kc wA wc) {r : Nat} (hk : ∀ b, kA.map (·.block) = some b → b ≠ r) (hw : ∀ b, wA.map (·.block) = some b → b ≠ r) (v0 v1 v2 v3 : Value) :
    At ((((W.setCell ⟨r, 0, none⟩ v0).setCell ⟨r, 1, none⟩ v1).setCell ⟨r, 2, none⟩ v2).setCell ⟨r, 3, none⟩ v3) d kA kc wA wc := at_of (h.rowT.four hk v0 v1 v2 v3) (h.rowW.four hw v0 v1 v2 v3)

set_option maxHeartbeats 4000000 in
set_option maxRecDepth 100000 in
theorem sync_off (d : Dk) (kA : Option Addr) (kc : Nat) (wA : Option Addr) (wc : Nat) (w : World) (hA : At w d kA kc wA wc) (hk : d.ks.length ≤ 1000000) (hm : d.ws.length ≤ 1000000) (ho : d.off = true) :
    Calls Try.prog 20 #[dval d kA kc wA wc] w fun e w' => ∃ kA' kc' wA' wc', e = .returned (.tuple #[dval d kA' kc' wA' wc', .int .i64 14]) ∧ At w' d kA' kc' wA' wc' ∧ Below w.heap.size w w' := by
  unfold dval
  obtain ⟨n, hn⟩ : ∃ n, d.ks.length = n := ⟨_, rfl⟩
  obtain ⟨m, hmm⟩ : ∃ m, d.ws.length = m := ⟨_, rfl⟩
  have HI : Hid (∀ W, Below w.heap.size w W → Calls Try.prog 42 #[.agg #[.int .i64 d.sz, .slice kA n kc, .slice wA m wc, .bool d.off]] W fun e w' => ∃ kA' kc' wA' wc', e = .returned (.agg #[.int .i64 d.sz, .slice kA' n kc', .slice wA' m wc', .bool d.off]) ∧ At w' d kA' kc' wA' wc' ∧ NewA W kA' ∧ NewA W wA' ∧ Below W.heap.size W w') := Lib.hid fun W hW => copyOf_four d kA kc wA wc W (hA.below hW) hk hm n m hn hmm
  clear hA hk hm
  rw [hn, hmm]
  clear hn hmm
  rw [ho] at *
  have HIo := HI
  clear HI
  generalize hsz : d.sz = sz at *
  clear hsz
  go_enter Try.func20, Try.ntmps20
  go_wp2_with fail
  obtain ⟨V, hV, X1, X2, B1⟩ := two_boxes w (.int .i64 sz) (.slice kA n kc) (.slice wA m wc) (.bool true)
  rw [hV]
  clear hV
  have HX2 : Hid (Bx V (w.heap.size + 1) 25 #[.int .i64 0, .slice none 0 0, .slice none 0 0, .bool false]) := Lib.hid X2
  have HB1 := Lib.hid B1
  clear X1 X2 B1
  refine (HIo.out _ HB1.out).mono ?_
  rintro e w1 ⟨kA', kc', wA', wc', rfl, hat, hn1, hn2, hb⟩
  obtain ⟨y0, y1, y2, y3⟩ := (HX2.out.below (W' := w1) hb).four
  have y4 := (HX2.out.below (W' := w1) hb).frozen
  have HAT := Lib.hid (hat.four (r := w.heap.size + 1) (hn1.ne HX2.out.lt) (hn2.ne HX2.out.lt) (.int .i64 sz) (.slice kA' n kc') (.slice wA' m wc') (.bool true))
  have HBB := Lib.hid (four_below (r := w.heap.size + 1) (below_trans HB1.out hb) (by omega) (.int .i64 sz) (.slice kA' n kc') (.slice wA' m wc') (.bool true))
  clear hat hn1 hn2 hb
  go_wp2_with fail
  exact bodyPost_ret (v := .tuple #[.agg #[.int .i64 sz, .slice kA' n kc', .slice wA' m wc', .bool true], .int .i64 14]) (by simp [results, Try.results20, go_sem, *]) rfl ⟨kA', kc', wA', wc', rfl, HAT.out, HBB.out⟩
end Go.Proofs.Ytpkoonokagchgaa
