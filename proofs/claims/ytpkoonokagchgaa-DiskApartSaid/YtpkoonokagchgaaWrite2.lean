/- What Write of package disk answers where it writes: the disk with a write more. Conditions: at most 1000000 sectors and writes. -/
import Derived.Test.YtpkoonokagchgaaWrite
namespace Go.Proofs.Ytpkoonokagchgaa
open Go.ChangeShapes Go.WideShapes Go.ChangeAt Go.RowKit Go.Shelf

theorem cells_new (w : World) (cs : Array Value) (e : TypeId) : ∀ j u, cs.toList[j]? = some u → (w.alloc (.cells cs e)).cell? ((⟨w.heap.size, 0, none⟩ : Addr).add j) = some u := fun j u hu => by
  rw [add_plain, Nat.zero_add, cell_of_row _ _ _ cs e (0, 0) (heap_alloc_new w _)]
  rw [← hu]
  simp

theorem wcells_one (x : Wr) : ∀ u ∈ wcells x, u.oneCell' = true := by
  intro u hu
  simp only [wcells, List.mem_cons, List.not_mem_nil, or_false] at hu
  obtain rfl | rfl := hu <;> rfl
theorem wrcells_snoc (l : List Wr) (x : Wr) : wrcells l ++ wcells x = wrcells (l ++ [x]) := by simp [wrcells]
theorem snoc_length (l : List Wr) (x : Wr) (m : Nat) (h : l.length = m) : (l ++ [x]).length = m + 1 := by simp [h]

set_option maxHeartbeats 1000000 in
set_option maxRecDepth 100000 in
theorem write_yes (d : Dk) (p : Int) (s : ByteArray) (kA : Option Addr) (kc : Nat) (wA : Option Addr) (wc : Nat) (w : World) (hA : At w d kA kc wA wc) (hk : d.ks.length ≤ 1000000) (hm : d.ws.length ≤ 1000000) (hE : writeE d p s = 0) :
    Calls Try.prog 18 #[dval d kA kc wA wc, .int .i64 p, .string s] w fun e w' => ∃ kA' kc' wA' wc', e = .returned (.tuple #[dval (more d p s) kA' kc' wA' wc', .int .i64 0]) ∧ At w' (more d p s) kA' kc' wA' wc' ∧ NewA w kA' ∧ NewA w wA' ∧ Below w.heap.size w w' := by
  obtain ⟨hoff, hh, hwi⟩ := writeE_ok hE
  have hz : reachE d.off d.ks.length p = 0 := by unfold reachE; rw [hoff, hh]; rfl
  have HR : Hid (∀ W, Calls Try.prog 39 #[dval d kA kc wA wc, .int .i64 p] W fun e w' => e = .returned (.int .i64 (reachE d.off d.ks.length p)) ∧ Below W.heap.size W w') := Lib.hid fun W => reach_any d kA kc wA wc p W
  have HWI : Hid (∀ W, Calls Try.prog 36 #[.int .i64 (s.size : Int), .int .i64 1, .int .i64 d.sz] W fun e w' => e = .returned (.bool (withinB s.size 1 d.sz)) ∧ W = w') := Lib.hid fun W => within_any _ _ _ W
  have HC : Hid (∀ W, Below w.heap.size w W → Calls Try.prog 43 #[.slice kA d.ks.length kc] W fun e w' => ∃ A' c', e = .returned (.slice A' d.ks.length c') ∧ RowT w' A' c' d.ks ∧ NewA W A' ∧ Below W.heap.size W w') :=
    Lib.hid fun W hW => cloneS_row kA kc d.ks W (hA.rowT.below hW) hk
  have HAT : Hid (∀ W (kA' wA' : Option Addr) (kc' wc' : Nat), RowT W kA' kc' d.ks → RowW W wA' wc' (d.ws ++ [(⟨p, s⟩ : Wr)]) → At W (more d p s) kA' kc' wA' wc') := Lib.hid fun W _ _ _ _ h1 h2 => at_of h1 h2
  have HRW := Lib.hid hA.rowW
  have HLE := Lib.hid hA.wl
  rw [hz] at HR
  rw [hwi] at HWI
  obtain ⟨i0, hi, hi0, hi1, hi2⟩ := info55
  have HI := Lib.hid hi
  have HI0 := Lib.hid hi0
  have HI1 := Lib.hid hi1
  have HI2 := Lib.hid hi2
  clear hi hi0 hi1 hi2
  obtain ⟨m, hmm⟩ : ∃ m, d.ws.length = m := ⟨_, rfl⟩
  have HSN := Lib.hid (snoc_length d.ws ⟨p, s⟩ m hmm)
  have HM := Lib.hid hmm
  show Calls Try.prog 18 _ w fun e w' => ∃ kA' kc' wA' wc', e = .returned (.tuple #[.agg #[.int .i64 d.sz, .slice kA' d.ks.length kc', .slice wA' (d.ws ++ [(⟨p, s⟩ : Wr)]).length wc', .bool false], .int .i64 0]) ∧ At w' (more d p s) kA' kc' wA' wc' ∧ NewA w kA' ∧ NewA w wA' ∧ Below w.heap.size w w'
  rw [HSN.out]
  unfold dval at *
  rw [hoff] at HR ⊢
  rw [hmm] at HR HLE hm ⊢
  clear hA hk hE hz hh hwi hoff hmm
  generalize d.ks.length = n at *
  generalize d.sz = sz at *
  go_enter Try.func18, Try.ntmps18
  go_wp2_with fail
  obtain ⟨V, hV, X1, X2, B1⟩ := two_boxes w (.int .i64 sz) (.slice kA n kc) (.slice wA m wc) (.bool false)
  rw [hV]
  clear hV
  have HX1 := Lib.hid X1
  have HX2 := Lib.hid X2
  have HB1 := Lib.hid B1
  clear X1 X2 B1
  refine (HR.out _).mono ?_
  rintro e w1 ⟨rfl, hb1⟩
  have z := HX1.out.below hb1
  obtain ⟨z0, z1, z2, z3⟩ := z.four
  have HX3 := Lib.hid z
  have HX4 := Lib.hid (HX2.out.below hb1)
  have HB2 := Lib.hid (below_trans HB1.out hb1)
  clear hb1 HX1 HX2 HB1 z
  go_wp2_with fail
  refine (HWI.out _).mono ?_
  rintro e w2 ⟨rfl, rfl⟩
  have hle := HLE.out
  have HN : Hid (wA = none → m = 0 ∧ m = 0) := Lib.hid fun h => ⟨by rw [← HM.out]; exact (HRW.out.nn h).1, by rw [← HM.out]; exact (HRW.out.nn h).1⟩
  have HH : Hid (∀ W, Below w.heap.size w W → ∀ b, wA = some b → ∀ j u, (wrcells d.ws)[j]? = some u → W.cell? (b.add j) = some u) := Lib.hid fun W hW b hb j u hu => by
    obtain ⟨b', o', h1, h2, h3⟩ := (HRW.out.below hW).k.get hu
    rw [hb] at h1
    simp only [Option.some.injEq] at h1
    subst h1
    rw [add_plain]
    exact h3 j u hu
  have HL : Hid ((wrcells d.ws).length = m * 2) := Lib.hid (by rw [wrcells_length, HM.out])
  go_wp2_with (
    at_builtin
    refine wpList_append_grows _ rfl _ _ 23 rfl 55 i0 (.agg #[.int .i64 0, .string ⟨#[]⟩]) 2 24 Try.underlying23 HI.out HI0.out HI1.out HI2.out rfl (by decide) _ m m (wrcells d.ws) rfl HN.out HL.out (HH.out _ (below_trans HB2.out (alloc_below _ _))) ⟨w1.heap.size, 0, none⟩ 1 1 (wcells ⟨p, s⟩) rfl rfl (cells_new w1 #[.int .i64 p, .string s] 55) (wcells_one _) (by omega) (by unfold maxLen; omega) (by omega) ?_
    intro v w4 hown hgrow
    rw [wrcells_snoc] at hown
    obtain ⟨A4, c4, rfl⟩ := own_slice hown
    have B4 : Below w1.heap.size w1 w4 := (alloc_below w1 _).grown hgrow (by simp) (fun g hg => by cases hg)
    have HR4 := Lib.hid (rowW_own hown HSN.out.symm)
    have HN4 := Lib.hid (newA_own hown)
    have HX5 := Lib.hid (HX3.out.below B4)
    have HX6 := Lib.hid (HX4.out.below B4)
    have HB4 := Lib.hid (below_trans HB2.out B4)
    clear hown hgrow B4)
  all_goals
    clear z0 z1 z2 z3
    obtain ⟨x0, x1, x2, x3⟩ := HX5.out.four
    have S0 : w4.drew.cell? ⟨w.heap.size, 0, none⟩ = some (.int .i64 sz) ∧ w4.drew.cell? ⟨w.heap.size, 1, none⟩ = some (.slice kA n kc) ∧ w4.drew.cell? ⟨w.heap.size, 2, none⟩ = some (.slice wA m wc) ∧ w4.drew.cell? ⟨w.heap.size, 3, none⟩ = some (.bool false) ∧ Below w.heap.size w w4.drew := ⟨x0, x1, x2, x3, HB4.out.drew⟩
    have HX7 : Hid (Bx w4.drew (w.heap.size + 1) 25 #[.int .i64 0, .slice none 0 0, .slice none 0 0, .bool false]) := HX6
    have HR5 : Hid (RowW w4.drew A4 c4 (d.ws ++ [(⟨p, s⟩ : Wr)])) := Lib.hid (HR4.out.below (drew_below w4))
    clear x0 x1 x2 x3
    go_region_held3 (fun W => W.cell? ⟨w.heap.size, 0, none⟩ = some (.int .i64 sz) ∧ W.cell? ⟨w.heap.size, 1, none⟩ = some (.slice kA n kc) ∧ W.cell? ⟨w.heap.size, 2, none⟩ = some (.slice wA m wc) ∧ W.cell? ⟨w.heap.size, 3, none⟩ = some (.bool false) ∧ Below w.heap.size w W)
      (first
        | assumption
        | exact next5' S0 (by assumption)
        | exact next5' (by assumption) (by assumption)
        | exact S0
        | (refine ⟨?_, ?_, ?_, ?_, ?_⟩; (simp [go_sem, *]); (simp [go_sem, *]); (simp [go_sem, *]); (simp [go_sem, *]); (exact four_below (And.right (And.right (And.right (And.right (by assumption))))) (by omega) _ _ _ _)))
      (first
        | (go_at_call 43; (with_reducible refine (HC.out _ (S0).2.2.2.2).mono ?_); rintro e w' ⟨A', c', rfl, hr, hnw, hb'⟩; obtain ⟨y0, y1, y2, y3⟩ := (HX7.out.below (W' := w') hb').four; have y4 := (HX7.out.below (W' := w') hb').frozen))
    rename_i hS
    have B9 := hS.2.2.2.2
    have R9 := hr.four (hnw.ne HX7.out.lt) (.int .i64 sz) (.slice A' n c') (.slice A4 (m + 1) c4) (.bool false)
    have R8 := (HR5.out.below hb').four (HN4.out.ne (r := w.heap.size + 1) (by have := HX4.out.lt; simp; omega)) (.int .i64 sz) (.slice A' n c') (.slice A4 (m + 1) c4) (.bool false)
    go_wp2_with fail
    exact bodyPost_ret (v := .tuple #[.agg #[.int .i64 sz, .slice A' n c', .slice A4 (m + 1) c4, .bool false], .int .i64 0]) (by simp [results, Try.results18, go_sem, *]) rfl ⟨A', c', A4, c4, rfl, HAT.out _ _ _ _ _ R9 R8, hnw.mono S0.2.2.2.2.size, HN4.out.mono (by have := HB2.out.size; simp; omega), B9⟩
end Go.Proofs.Ytpkoonokagchgaa
