/- What the document's own Write answers where it writes: the disk with a write more. Conditions: at most 1000000 sectors and writes. -/
import Derived.Test.YtpkoonokagchgaaRefWrite
import Derived.Test.YtpkoonokagchgaaWrite2
import Derived.Laws.AppendOwnNone
namespace Go.Proofs.Ytpkoonokagchgaa
open Go.ChangeShapes Go.WideShapes Go.ChangeAt Go.RowKit Go.Shelf

theorem grow_cell {W W' : World} {r : Option Nat} (h : W.grownBy W' r) {b o : Nat} (hb : b < W.heap.size) (hr : ∀ g, r = some g → b ≠ g) : W'.cell? ⟨b, o, none⟩ = W.cell? ⟨b, o, none⟩ :=
  World.cell?_of_block (h.block b hb (fun hc => hr b hc.symm rfl))

theorem four_cell {W : World} {r b o : Nat} (h : b ≠ r) (v0 v1 v2 v3 : Value) : ((((W.setCell ⟨r, 0, none⟩ v0).setCell ⟨r, 1, none⟩ v1).setCell ⟨r, 2, none⟩ v2).setCell ⟨r, 3, none⟩ v3).cell? ⟨b, o, none⟩ = W.cell? ⟨b, o, none⟩ := by
  rw [World.cell?_of_block (heap_setCell_other _ ⟨r, 3, none⟩ b v3 h), World.cell?_of_block (heap_setCell_other _ ⟨r, 2, none⟩ b v2 h), World.cell?_of_block (heap_setCell_other _ ⟨r, 1, none⟩ b v1 h), World.cell?_of_block (heap_setCell_other _ ⟨r, 0, none⟩ b v0 h)]

set_option maxHeartbeats 4000000 in
set_option maxRecDepth 100000 in
theorem refWrite_yes (d : Dk) (p : Int) (s : ByteArray) (kA : Option Addr) (kc : Nat) (wA : Option Addr) (wc : Nat) (w : World) (hA : At w d kA kc wA wc) (hm : d.ws.length ≤ 1000000) (hE : writeE d p s = 0) :
    Calls Try.prog 19 #[dval d kA kc wA wc, .int .i64 p, .string s] w fun e w' => ∃ wA' wc', e = .returned (.tuple #[dval (more d p s) kA kc wA' wc', .int .i64 0]) ∧ At w' (more d p s) kA kc wA' wc' ∧ Below w.heap.size w w' := by
  obtain ⟨hoff, hh, hwi⟩ := writeE_ok hE
  obtain ⟨q0, q1⟩ := hasB_iff.1 hh
  obtain ⟨q2, q3⟩ := withinB_iff.1 hwi
  have HAT : Hid (∀ W (wA' : Option Addr) (wc' : Nat), Below w.heap.size w W → RowW W wA' wc' (d.ws ++ [(⟨p, s⟩ : Wr)]) → At W (more d p s) kA kc wA' wc') := Lib.hid fun W _ _ hW h2 => at_of (hA.rowT.below hW) h2
  have HRW := Lib.hid hA.rowW
  obtain ⟨i0, hi, hi0, hi1, hi2⟩ := info55
  have HI := Lib.hid hi
  have HI0 := Lib.hid hi0
  have HI1 := Lib.hid hi1
  have HI2 := Lib.hid hi2
  clear hi hi0 hi1 hi2
  obtain ⟨m, hmm⟩ : ∃ m, d.ws.length = m := ⟨_, rfl⟩
  have HSN := Lib.hid (snoc_length d.ws ⟨p, s⟩ m hmm)
  have HM := Lib.hid hmm
  show Calls Try.prog 19 _ w fun e w' => ∃ wA' wc', e = .returned (.tuple #[.agg #[.int .i64 d.sz, .slice kA d.ks.length kc, .slice wA' (d.ws ++ [(⟨p, s⟩ : Wr)]).length wc', .bool false], .int .i64 0]) ∧ At w' (more d p s) kA kc wA' wc' ∧ Below w.heap.size w w'
  rw [HSN.out]
  unfold dval at *
  rw [hoff]
  rw [hmm] at hm ⊢
  have HNN : Hid (wA = none → m = 0 ∧ wc = 0) := Lib.hid fun h => ⟨by rw [← HM.out]; exact (HRW.out.nn h).1, (HRW.out.nn h).2⟩
  have HH : Hid (∀ W, Below w.heap.size w W → ∀ b, wA = some b → ∀ j u, (wrcells d.ws)[j]? = some u → W.cell? (b.add j) = some u) := Lib.hid fun W hW b hb j u hu => by
    obtain ⟨b', o', h1, h2, h3⟩ := (HRW.out.below hW).k.get hu
    rw [hb] at h1
    simp only [Option.some.injEq] at h1
    subst h1
    rw [add_plain]
    exact h3 j u hu
  have HL : Hid ((wrcells d.ws).length = m * 2) := Lib.hid (by rw [wrcells_length, HM.out])
  have HWS : Hid (m = 0 → wrcells d.ws = []) := Lib.hid fun h => List.eq_nil_of_length_eq_zero (by rw [HL.out, h])
  clear hA hE hh hwi hoff hmm
  generalize d.ks.length = n at *
  generalize d.sz = sz at *
  obtain ⟨V, hV, X1, X2, B1⟩ := two_boxes w (.int .i64 sz) (.slice kA n kc) (.slice wA m wc) (.bool false)
  have HX1 := Lib.hid X1
  have HX2 := Lib.hid X2
  have HB1 := Lib.hid B1
  have HV := Lib.hid hV
  obtain ⟨z0, z1, z2, z3⟩ := X1.four
  have zo : ∀ o, (V.alloc o).cell? ⟨w.heap.size, 2, none⟩ = some (.slice wA m wc) := fun o => (X1.below (alloc_below V o)).cell 2 rfl
  clear X1 X2 B1 hV
  rcases wA with _ | a
  case some =>
    go_enter Try.func19, Try.ntmps19
    go_upto_region 7 with fail
    rw [HV.out]
    clear HV HRW HNN
    go_wp2_with (
      at_builtin
      refine wpList_append_own _ rfl _ _ 23 rfl V.heap.size 55 i0 (.agg #[.int .i64 0, .string ⟨#[]⟩]) 2 24 Try.underlying23 HI.out HI0.out HI1.out HI2.out rfl (by decide) (.slice (some ⟨V.heap.size, 0, none⟩) 0 0) 0 [] rfl (World.ownsRow_made V #[] 0 (Nat.le_refl _) (by decide) rfl) a m wc (wrcells d.ws) rfl HL.out (HH.out _ (below_trans HB1.out (alloc_below V _)) a rfl) (wrcells_one _) (by unfold maxLen; omega) (by omega) (by simp) ?_
      intro v w1 hown hgrow hiff
      clear hiff
      rw [Nat.zero_add, List.nil_append] at hown
      obtain ⟨A1, c1, rfl⟩ := own_slice hown
      have HB2 : Hid (Below V.heap.size V w1) := Lib.hid ((alloc_below V _).grown hgrow (by simp) (fun g hg => by simp [Value.ownBlock] at hg; omega))
      have HO1 := Lib.hid hown
      clear hown hgrow)
    have HX3 := Lib.hid (HX1.out.below HB2.out)
    have HX4 := Lib.hid (HX2.out.below HB2.out)
    have HB3 := Lib.hid (below_trans HB1.out HB2.out)
    have x0 := HX3.out.cell 0 (v := .int .i64 sz) rfl
    have x1 := HX3.out.cell 1 (v := .slice kA n kc) rfl
    have hvs : w.heap.size + 1 < V.heap.size := HX2.out.lt
    have hws : V.heap.size ≤ w1.heap.size := HB2.out.size
    clear z0 z1 z2 z3 zo
    refine wp_region_held_drew (S := fun W' => W'.cell? ⟨w.heap.size, 0, none⟩ = some (.int .i64 sz) ∧ W'.cell? ⟨w.heap.size, 1, none⟩ = some (.slice kA n kc) ∧ Below w.heap.size w W') (by kernel_rfl) ⟨x0, x1, HB3.out.drew⟩ (fun hHeld => ?_)
    have HO2 : Hid (w1.drew.ownsRow V.heap.size 55 2 (.slice A1 m c1) m (wrcells d.ws)) := HO1
    have HX5 : Hid (Bx w1.drew (w.heap.size + 1) 25 #[.int .i64 0, .slice none 0 0, .slice none 0 0, .bool false]) := HX4
    have hws2 : V.heap.size ≤ w1.drew.heap.size := hws
    generalize w1.drew = w2 at *
    clear x0 x1 HO1 HX4 HX3
    refine wpAnyH_take (i := 0) (v := ?_) rfl (by kernel_rfl) (by kernel_rfl) (by kernel_rfl) (fun _ _ _ h => h) (Or.inl ⟨by rfl, ?_⟩) (by assumption) ?_
    rotate_left
    · intro w hSw; (try dsimp only at hSw); go_simp; first | done | with_reducible rfl
    try simp only [Act.put, List.getElem_toArray, List.getElem_cons_zero, List.setIfInBounds_toArray, List.set_cons_zero, List.set_cons_succ]
    refine wpAnyH_take (i := 1) (v := ?_) rfl (by kernel_rfl) (by kernel_rfl) (by kernel_rfl) (fun _ _ _ h => h) (Or.inl ⟨by rfl, ?_⟩) (by assumption) ?_
    rotate_left
    · intro w hSw; (try dsimp only at hSw); go_simp; first | done | with_reducible rfl
    try simp only [Act.put, List.getElem_toArray, List.getElem_cons_zero, List.getElem_cons_succ, List.setIfInBounds_toArray, List.set_cons_zero, List.set_cons_succ]
    refine wpAnyH_take (i := 2) (v := ?_) rfl (by kernel_rfl) (by kernel_rfl) (by kernel_rfl) (fun _ _ _ h => h) (Or.inl ⟨by rfl, ?_⟩) (by assumption) ?_
    rotate_left
    · intro w hSw; (try dsimp only at hSw); go_simp; first | done | with_reducible rfl
    try simp only [Act.put, List.getElem_toArray, List.getElem_cons_zero, List.getElem_cons_succ, List.setIfInBounds_toArray, List.set_cons_zero, List.set_cons_succ]
    refine wpAnyH_take (i := 3) (v := ?_) rfl (by kernel_rfl) (by kernel_rfl) (by kernel_rfl) (fun _ _ _ h => h) (Or.inl ⟨by rfl, ?_⟩) (by assumption) ?_
    rotate_left
    · intro w hSw; (try dsimp only at hSw); go_simp; first | done | with_reducible rfl
    try simp only [Act.put, List.getElem_toArray, List.getElem_cons_zero, List.getElem_cons_succ, List.setIfInBounds_toArray, List.set_cons_zero, List.set_cons_succ]
    refine wpAnyH_take (i := 4) (v := ?_) rfl (by kernel_rfl) (by kernel_rfl) (by kernel_rfl) (fun _ _ _ h => h) (Or.inl ⟨by rfl, ?_⟩) (by assumption) ?_
    rotate_left
    · intro w hSw; (try dsimp only at hSw); go_simp; first | done | with_reducible rfl
    try simp only [Act.put, List.getElem_toArray, List.getElem_cons_zero, List.getElem_cons_succ, List.setIfInBounds_toArray, List.set_cons_zero, List.set_cons_succ]
    refine wpAnyH_take (i := 5) (v := ?_) rfl (by kernel_rfl) (by kernel_rfl) (by kernel_rfl) (fun _ _ _ h => h) (Or.inl ⟨by rfl, ?_⟩) (by assumption) ?_
    rotate_left
    · intro w hSw; (try dsimp only at hSw); go_simp; first | done | with_reducible rfl
    try simp only [Act.put, List.getElem_toArray, List.getElem_cons_zero, List.getElem_cons_succ, List.setIfInBounds_toArray, List.set_cons_zero, List.set_cons_succ]
    refine wpAnyH_take (i := 6) (v := ?_) rfl (by kernel_rfl) (by kernel_rfl) (by kernel_rfl) (fun _ _ _ h => h) (Or.inl ⟨by rfl, ?_⟩) (by assumption) ?_
    rotate_left
    · intro w hSw; (try dsimp only at hSw); go_simp; first | done | with_reducible rfl
    try simp only [Act.put, List.getElem_toArray, List.getElem_cons_zero, List.getElem_cons_succ, List.setIfInBounds_toArray, List.set_cons_zero, List.set_cons_succ]
    refine wpAnyH_take (i := 7) (v := ?_) rfl (by kernel_rfl) (by kernel_rfl) (by kernel_rfl) (fun _ _ _ h => h) (Or.inl ⟨by rfl, ?_⟩) (by assumption) ?_
    rotate_left
    · intro w hSw; (try dsimp only at hSw); go_simp; first | done | with_reducible rfl
    try simp only [Act.put, List.getElem_toArray, List.getElem_cons_zero, List.getElem_cons_succ, List.setIfInBounds_toArray, List.set_cons_zero, List.set_cons_succ]
    refine wpAnyH_ready (rs := [8]) (by kernel_rfl) (by simp) ?_
    refine AllReadyH.cons rfl (fun K hK => ?_) AllReadyH.nil
    go_simp
    have HB4 : Hid (Below w2.heap.size w2 (w2.alloc (.cells #[.int .i64 p, .string s] 55))) := Lib.hid (alloc_below _ _)
    have hS2 : (w2.alloc (.cells #[.int .i64 p, .string s] 55)).cell? ⟨w.heap.size, 0, none⟩ = some (.int .i64 sz) ∧ (w2.alloc (.cells #[.int .i64 p, .string s] 55)).cell? ⟨w.heap.size, 1, none⟩ = some (.slice kA n kc) ∧ Below w.heap.size w (w2.alloc (.cells #[.int .i64 p, .string s] 55)) :=
      ⟨((bcell HB4.out).1 _ 0 (by omega)).trans hHeld.1, ((bcell HB4.out).1 _ 1 (by omega)).trans hHeld.2.1, below_trans hHeld.2.2 HB4.out⟩
    refine hK.out _ _ hS2 (fun hHeld3 => ?_)
    clear hK K hS2 hHeld
    refine wpAnyH_ready (rs := [9]) (by kernel_rfl) (by simp) ?_
    refine AllReadyH.cons rfl (fun K hK => ?_) AllReadyH.nil
    rw [if_pos (by rfl)]
    refine wp_append_own _ _ _ 23 rfl V.heap.size 55 i0 (.agg #[.int .i64 0, .string ⟨#[]⟩]) 2 24 Try.underlying23 HI.out HI0.out HI1.out HI2.out rfl (by decide) (.slice A1 m c1) m _ rfl (HO2.out.alloc _) ⟨w2.heap.size, 0, none⟩ 1 1 (wcells ⟨p, s⟩) rfl rfl (cells_new w2 #[.int .i64 p, .string s] 55) (wcells_one _) (by unfold maxLen; omega) (by omega) (by simp; omega) ?_
    intro v2 w3 hown3 hgrow3 _
    simp only [Act.put, List.setIfInBounds_toArray]
    obtain ⟨A3, c3, rfl⟩ := own_slice hown3
    have hblk : ∀ g, (Value.slice A1 m c1).ownBlock = some g → V.heap.size ≤ g := fun g hg => (HO2.out.lt g hg).1
    have hS3 : w3.cell? ⟨w.heap.size, 0, none⟩ = some (.int .i64 sz) ∧ w3.cell? ⟨w.heap.size, 1, none⟩ = some (.slice kA n kc) ∧ Below w.heap.size w w3 :=
      ⟨(grow_cell hgrow3 (by simp; omega) (fun g hg => by have := hblk g hg; omega)).trans hHeld3.1, (grow_cell hgrow3 (by simp; omega) (fun g hg => by have := hblk g hg; omega)).trans hHeld3.2.1, hHeld3.2.2.grown hgrow3 hHeld3.2.2.size (fun g hg => by have := hblk g hg; omega)⟩
    have HX6 : Hid (Bx w3 (w.heap.size + 1) 25 #[.int .i64 0, .slice none 0 0, .slice none 0 0, .bool false]) := Lib.hid ((hgrow3.block (w.heap.size + 1) (by simp; omega) (fun hc => by have := hblk _ hc.symm; omega)).trans (HX5.out.below HB4.out))
    rw [wrcells_snoc] at hown3
    have HR3 := Lib.hid (rowW_own hown3 HSN.out.symm)
    have HN3 : Hid (NewA V A3) := Lib.hid (newA_own hown3)
    refine hK.out _ _ hS3 (fun hHeld4 => ?_)
    clear hK K hS3 hHeld3 hgrow3 hown3 hblk HX5 HO2
    refine wpAnyH_take (i := 10) (v := ?_) rfl (by kernel_rfl) (by kernel_rfl) (by kernel_rfl) (fun _ _ _ h => h) (Or.inl ⟨by rfl, ?_⟩) (by assumption) ?_
    rotate_left
    · intro w hSw; (try dsimp only at hSw); go_simp; first | done | with_reducible rfl
    try simp only [Act.put, List.getElem_toArray, List.getElem_cons_zero, List.getElem_cons_succ, List.setIfInBounds_toArray, List.set_cons_zero, List.set_cons_succ]
    obtain ⟨y0, y1, y2, y3⟩ := HX6.out.four
    have y4 := HX6.out.frozen
    have hB5 := hHeld4.2.2
    have HB5 := Lib.hid hB5
    refine wpAnyH_ready (rs := [11]) (by kernel_rfl) (by simp) ?_
    refine AllReadyH.cons rfl (fun K hK => ?_) AllReadyH.nil
    go_simp
    have hS5 : ((((w3.setCell ⟨w.heap.size + 1, 0, none⟩ (.int .i64 sz)).setCell ⟨w.heap.size + 1, 1, none⟩ (.slice kA n kc)).setCell ⟨w.heap.size + 1, 2, none⟩ (.slice A3 (m + 1) c3)).setCell ⟨w.heap.size + 1, 3, none⟩ (.bool false)).cell? ⟨w.heap.size, 0, none⟩ = some (.int .i64 sz) ∧ ((((w3.setCell ⟨w.heap.size + 1, 0, none⟩ (.int .i64 sz)).setCell ⟨w.heap.size + 1, 1, none⟩ (.slice kA n kc)).setCell ⟨w.heap.size + 1, 2, none⟩ (.slice A3 (m + 1) c3)).setCell ⟨w.heap.size + 1, 3, none⟩ (.bool false)).cell? ⟨w.heap.size, 1, none⟩ = some (.slice kA n kc) ∧ Below w.heap.size w ((((w3.setCell ⟨w.heap.size + 1, 0, none⟩ (.int .i64 sz)).setCell ⟨w.heap.size + 1, 1, none⟩ (.slice kA n kc)).setCell ⟨w.heap.size + 1, 2, none⟩ (.slice A3 (m + 1) c3)).setCell ⟨w.heap.size + 1, 3, none⟩ (.bool false)) :=
      ⟨(four_cell (by omega) _ _ _ _).trans hHeld4.1, (four_cell (by omega) _ _ _ _).trans hHeld4.2.1, four_below HB5.out (by omega) _ _ _ _⟩
    refine hK.out _ _ hS5 (fun hHeld5 => ?_)
    have HR4 := Lib.hid (HR3.out.four (r := w.heap.size + 1) (HN3.out.ne (by omega)) (.int .i64 sz) (.slice kA n kc) (.slice A3 (m + 1) c3) (.bool false))
    clear hK K hS5 hHeld4 hB5
    refine wpAnyH_take (i := 12) (v := ?_) rfl (by kernel_rfl) (by kernel_rfl) (by kernel_rfl) (fun _ _ _ h => h) (Or.inl ⟨by rfl, ?_⟩) (by assumption) ?_
    rotate_left
    · intro w hSw; (try dsimp only at hSw); go_simp; first | done | with_reducible rfl
    try simp only [Act.put, List.getElem_toArray, List.getElem_cons_zero, List.getElem_cons_succ, List.setIfInBounds_toArray, List.set_cons_zero, List.set_cons_succ]
    refine wpAnyH_done (by kernel_rfl) ?_ _
    go_wp2_with fail
    exact bodyPost_ret (v := .tuple #[.agg #[.int .i64 sz, .slice kA n kc, .slice A3 (m + 1) c3, .bool false], .int .i64 0]) (by simp [results, Try.results19, go_sem, *]) rfl ⟨A3, c3, rfl, HAT.out _ _ _ hHeld5.2.2 HR4.out, hHeld5.2.2⟩
  case none =>
    obtain ⟨rfl, rfl⟩ := HNN.out rfl
    go_enter Try.func19, Try.ntmps19
    go_upto_region 7 with fail
    rw [HV.out]
    clear HV HRW HNN
    go_wp2_with (
      at_builtin
      refine wpList_append_own_none rfl _ _ 23 rfl V.heap.size 55 i0 2 Try.underlying23 HI.out (.slice (some ⟨V.heap.size, 0, none⟩) 0 0) 0 [] rfl (World.ownsRow_made V #[] 0 (Nat.le_refl _) (by decide) rfl) rfl ?_)
    obtain ⟨w1, hw1⟩ : ∃ w1, V.alloc (.cells #[] 55) = w1 := ⟨_, rfl⟩
    have HB2 : Hid (Below V.heap.size V w1) := Lib.hid (by rw [← hw1]; exact alloc_below V _)
    have HO1 : Hid (w1.ownsRow V.heap.size 55 2 (.slice (some ⟨V.heap.size, 0, none⟩) 0 0) 0 (wrcells d.ws)) := Lib.hid (by rw [HWS.out (by trivial), ← hw1]; exact World.ownsRow_made V #[] 0 (Nat.le_refl _) (by decide) rfl)
    rw [hw1]
    clear hw1
    have HX3 := Lib.hid (HX1.out.below HB2.out)
    have HX4 := Lib.hid (HX2.out.below HB2.out)
    have HB3 := Lib.hid (below_trans HB1.out HB2.out)
    have x0 := HX3.out.cell 0 (v := .int .i64 sz) rfl
    have x1 := HX3.out.cell 1 (v := .slice kA n kc) rfl
    have hvs : w.heap.size + 1 < V.heap.size := HX2.out.lt
    have hws : V.heap.size ≤ w1.heap.size := HB2.out.size
    clear z0 z1 z2 z3 zo
    refine wp_region_held_drew (S := fun W' => W'.cell? ⟨w.heap.size, 0, none⟩ = some (.int .i64 sz) ∧ W'.cell? ⟨w.heap.size, 1, none⟩ = some (.slice kA n kc) ∧ Below w.heap.size w W') (by kernel_rfl) ⟨x0, x1, HB3.out.drew⟩ (fun hHeld => ?_)
    have HO2 : Hid (w1.drew.ownsRow V.heap.size 55 2 (.slice (some ⟨V.heap.size, 0, none⟩) 0 0) 0 (wrcells d.ws)) := HO1
    have HX5 : Hid (Bx w1.drew (w.heap.size + 1) 25 #[.int .i64 0, .slice none 0 0, .slice none 0 0, .bool false]) := HX4
    have hws2 : V.heap.size ≤ w1.drew.heap.size := hws
    generalize w1.drew = w2 at *
    clear x0 x1 HO1 HX4 HX3
    refine wpAnyH_take (i := 0) (v := ?_) rfl (by kernel_rfl) (by kernel_rfl) (by kernel_rfl) (fun _ _ _ h => h) (Or.inl ⟨by rfl, ?_⟩) (by assumption) ?_
    rotate_left
    · intro w hSw; (try dsimp only at hSw); go_simp; first | done | with_reducible rfl
    try simp only [Act.put, List.getElem_toArray, List.getElem_cons_zero, List.setIfInBounds_toArray, List.set_cons_zero, List.set_cons_succ]
    refine wpAnyH_take (i := 1) (v := ?_) rfl (by kernel_rfl) (by kernel_rfl) (by kernel_rfl) (fun _ _ _ h => h) (Or.inl ⟨by rfl, ?_⟩) (by assumption) ?_
    rotate_left
    · intro w hSw; (try dsimp only at hSw); go_simp; first | done | with_reducible rfl
    try simp only [Act.put, List.getElem_toArray, List.getElem_cons_zero, List.getElem_cons_succ, List.setIfInBounds_toArray, List.set_cons_zero, List.set_cons_succ]
    refine wpAnyH_take (i := 2) (v := ?_) rfl (by kernel_rfl) (by kernel_rfl) (by kernel_rfl) (fun _ _ _ h => h) (Or.inl ⟨by rfl, ?_⟩) (by assumption) ?_
    rotate_left
    · intro w hSw; (try dsimp only at hSw); go_simp; first | done | with_reducible rfl
    try simp only [Act.put, List.getElem_toArray, List.getElem_cons_zero, List.getElem_cons_succ, List.setIfInBounds_toArray, List.set_cons_zero, List.set_cons_succ]
    refine wpAnyH_take (i := 3) (v := ?_) rfl (by kernel_rfl) (by kernel_rfl) (by kernel_rfl) (fun _ _ _ h => h) (Or.inl ⟨by rfl, ?_⟩) (by assumption) ?_
    rotate_left
    · intro w hSw; (try dsimp only at hSw); go_simp; first | done | with_reducible rfl
    try simp only [Act.put, List.getElem_toArray, List.getElem_cons_zero, List.getElem_cons_succ, List.setIfInBounds_toArray, List.set_cons_zero, List.set_cons_succ]
    refine wpAnyH_take (i := 4) (v := ?_) rfl (by kernel_rfl) (by kernel_rfl) (by kernel_rfl) (fun _ _ _ h => h) (Or.inl ⟨by rfl, ?_⟩) (by assumption) ?_
    rotate_left
    · intro w hSw; (try dsimp only at hSw); go_simp; first | done | with_reducible rfl
    try simp only [Act.put, List.getElem_toArray, List.getElem_cons_zero, List.getElem_cons_succ, List.setIfInBounds_toArray, List.set_cons_zero, List.set_cons_succ]
    refine wpAnyH_take (i := 5) (v := ?_) rfl (by kernel_rfl) (by kernel_rfl) (by kernel_rfl) (fun _ _ _ h => h) (Or.inl ⟨by rfl, ?_⟩) (by assumption) ?_
    rotate_left
    · intro w hSw; (try dsimp only at hSw); go_simp; first | done | with_reducible rfl
    try simp only [Act.put, List.getElem_toArray, List.getElem_cons_zero, List.getElem_cons_succ, List.setIfInBounds_toArray, List.set_cons_zero, List.set_cons_succ]
    refine wpAnyH_take (i := 6) (v := ?_) rfl (by kernel_rfl) (by kernel_rfl) (by kernel_rfl) (fun _ _ _ h => h) (Or.inl ⟨by rfl, ?_⟩) (by assumption) ?_
    rotate_left
    · intro w hSw; (try dsimp only at hSw); go_simp; first | done | with_reducible rfl
    try simp only [Act.put, List.getElem_toArray, List.getElem_cons_zero, List.getElem_cons_succ, List.setIfInBounds_toArray, List.set_cons_zero, List.set_cons_succ]
    refine wpAnyH_take (i := 7) (v := ?_) rfl (by kernel_rfl) (by kernel_rfl) (by kernel_rfl) (fun _ _ _ h => h) (Or.inl ⟨by rfl, ?_⟩) (by assumption) ?_
    rotate_left
    · intro w hSw; (try dsimp only at hSw); go_simp; first | done | with_reducible rfl
    try simp only [Act.put, List.getElem_toArray, List.getElem_cons_zero, List.getElem_cons_succ, List.setIfInBounds_toArray, List.set_cons_zero, List.set_cons_succ]
    refine wpAnyH_ready (rs := [8]) (by kernel_rfl) (by simp) ?_
    refine AllReadyH.cons rfl (fun K hK => ?_) AllReadyH.nil
    go_simp
    have HB4 : Hid (Below w2.heap.size w2 (w2.alloc (.cells #[.int .i64 p, .string s] 55))) := Lib.hid (alloc_below _ _)
    have hS2 : (w2.alloc (.cells #[.int .i64 p, .string s] 55)).cell? ⟨w.heap.size, 0, none⟩ = some (.int .i64 sz) ∧ (w2.alloc (.cells #[.int .i64 p, .string s] 55)).cell? ⟨w.heap.size, 1, none⟩ = some (.slice kA n kc) ∧ Below w.heap.size w (w2.alloc (.cells #[.int .i64 p, .string s] 55)) :=
      ⟨((bcell HB4.out).1 _ 0 (by omega)).trans hHeld.1, ((bcell HB4.out).1 _ 1 (by omega)).trans hHeld.2.1, below_trans hHeld.2.2 HB4.out⟩
    refine hK.out _ _ hS2 (fun hHeld3 => ?_)
    clear hK K hS2 hHeld
    refine wpAnyH_ready (rs := [9]) (by kernel_rfl) (by simp) ?_
    refine AllReadyH.cons rfl (fun K hK => ?_) AllReadyH.nil
    rw [if_pos (by rfl)]
    refine wp_append_own _ _ _ 23 rfl V.heap.size 55 i0 (.agg #[.int .i64 0, .string ⟨#[]⟩]) 2 24 Try.underlying23 HI.out HI0.out HI1.out HI2.out rfl (by decide) (.slice (some ⟨V.heap.size, 0, none⟩) 0 0) 0 _ rfl (HO2.out.alloc _) ⟨w2.heap.size, 0, none⟩ 1 1 (wcells ⟨p, s⟩) rfl rfl (cells_new w2 #[.int .i64 p, .string s] 55) (wcells_one _) (by unfold maxLen; omega) (by omega) (by simp; omega) ?_
    intro v2 w3 hown3 hgrow3 _
    simp only [Act.put, List.setIfInBounds_toArray]
    obtain ⟨A3, c3, rfl⟩ := own_slice hown3
    have hblk : ∀ g, (Value.slice (some ⟨V.heap.size, 0, none⟩) 0 0).ownBlock = some g → V.heap.size ≤ g := fun g hg => (HO2.out.lt g hg).1
    have hS3 : w3.cell? ⟨w.heap.size, 0, none⟩ = some (.int .i64 sz) ∧ w3.cell? ⟨w.heap.size, 1, none⟩ = some (.slice kA n kc) ∧ Below w.heap.size w w3 :=
      ⟨(grow_cell hgrow3 (by simp; omega) (fun g hg => by have := hblk g hg; omega)).trans hHeld3.1, (grow_cell hgrow3 (by simp; omega) (fun g hg => by have := hblk g hg; omega)).trans hHeld3.2.1, hHeld3.2.2.grown hgrow3 hHeld3.2.2.size (fun g hg => by have := hblk g hg; omega)⟩
    have HX6 : Hid (Bx w3 (w.heap.size + 1) 25 #[.int .i64 0, .slice none 0 0, .slice none 0 0, .bool false]) := Lib.hid ((hgrow3.block (w.heap.size + 1) (by simp; omega) (fun hc => by have := hblk _ hc.symm; omega)).trans (HX5.out.below HB4.out))
    rw [wrcells_snoc] at hown3
    have HR3 := Lib.hid (rowW_own hown3 HSN.out.symm)
    have HN3 : Hid (NewA V A3) := Lib.hid (newA_own hown3)
    refine hK.out _ _ hS3 (fun hHeld4 => ?_)
    clear hK K hS3 hHeld3 hgrow3 hown3 hblk HX5 HO2
    refine wpAnyH_take (i := 10) (v := ?_) rfl (by kernel_rfl) (by kernel_rfl) (by kernel_rfl) (fun _ _ _ h => h) (Or.inl ⟨by rfl, ?_⟩) (by assumption) ?_
    rotate_left
    · intro w hSw; (try dsimp only at hSw); go_simp; first | done | with_reducible rfl
    try simp only [Act.put, List.getElem_toArray, List.getElem_cons_zero, List.getElem_cons_succ, List.setIfInBounds_toArray, List.set_cons_zero, List.set_cons_succ]
    obtain ⟨y0, y1, y2, y3⟩ := HX6.out.four
    have y4 := HX6.out.frozen
    have hB5 := hHeld4.2.2
    have HB5 := Lib.hid hB5
    refine wpAnyH_ready (rs := [11]) (by kernel_rfl) (by simp) ?_
    refine AllReadyH.cons rfl (fun K hK => ?_) AllReadyH.nil
    go_simp
    have hS5 : ((((w3.setCell ⟨w.heap.size + 1, 0, none⟩ (.int .i64 sz)).setCell ⟨w.heap.size + 1, 1, none⟩ (.slice kA n kc)).setCell ⟨w.heap.size + 1, 2, none⟩ (.slice A3 (0 + 1) c3)).setCell ⟨w.heap.size + 1, 3, none⟩ (.bool false)).cell? ⟨w.heap.size, 0, none⟩ = some (.int .i64 sz) ∧ ((((w3.setCell ⟨w.heap.size + 1, 0, none⟩ (.int .i64 sz)).setCell ⟨w.heap.size + 1, 1, none⟩ (.slice kA n kc)).setCell ⟨w.heap.size + 1, 2, none⟩ (.slice A3 (0 + 1) c3)).setCell ⟨w.heap.size + 1, 3, none⟩ (.bool false)).cell? ⟨w.heap.size, 1, none⟩ = some (.slice kA n kc) ∧ Below w.heap.size w ((((w3.setCell ⟨w.heap.size + 1, 0, none⟩ (.int .i64 sz)).setCell ⟨w.heap.size + 1, 1, none⟩ (.slice kA n kc)).setCell ⟨w.heap.size + 1, 2, none⟩ (.slice A3 (0 + 1) c3)).setCell ⟨w.heap.size + 1, 3, none⟩ (.bool false)) :=
      ⟨(four_cell (by omega) _ _ _ _).trans hHeld4.1, (four_cell (by omega) _ _ _ _).trans hHeld4.2.1, four_below HB5.out (by omega) _ _ _ _⟩
    refine hK.out _ _ hS5 (fun hHeld5 => ?_)
    have HR4 := Lib.hid (HR3.out.four (r := w.heap.size + 1) (HN3.out.ne (by omega)) (.int .i64 sz) (.slice kA n kc) (.slice A3 (0 + 1) c3) (.bool false))
    clear hK K hS5 hHeld4 hB5
    refine wpAnyH_take (i := 12) (v := ?_) rfl (by kernel_rfl) (by kernel_rfl) (by kernel_rfl) (fun _ _ _ h => h) (Or.inl ⟨by rfl, ?_⟩) (by assumption) ?_
    rotate_left
    · intro w hSw; (try dsimp only at hSw); go_simp; first | done | with_reducible rfl
    try simp only [Act.put, List.getElem_toArray, List.getElem_cons_zero, List.getElem_cons_succ, List.setIfInBounds_toArray, List.set_cons_zero, List.set_cons_succ]
    refine wpAnyH_done (by kernel_rfl) ?_ _
    go_wp2_with fail
    exact bodyPost_ret (v := .tuple #[.agg #[.int .i64 sz, .slice kA n kc, .slice A3 (0 + 1) c3, .bool false], .int .i64 0]) (by simp [results, Try.results19, go_sem, *]) rfl ⟨A3, c3, rfl, HAT.out _ _ _ hHeld5.2.2 HR4.out, hHeld5.2.2⟩
end Go.Proofs.Ytpkoonokagchgaa
