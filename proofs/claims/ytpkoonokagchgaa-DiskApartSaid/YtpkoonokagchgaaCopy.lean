/- What copyOf, Cut and Sync of package disk answer. -/
import Derived.Test.YtpkoonokagchgaaCrash
namespace Go.Proofs.Ytpkoonokagchgaa
open Go.ChangeShapes Go.WideShapes Go.ChangeAt Go.RowKit Go.Shelf

theorem cloneS_row (A : Option Addr) (c : Nat) (l : List ByteArray) (w : World) (h : RowT w A c l) (hl : l.length ≤ 1000000) :
    Calls Try.prog 43 #[.slice A l.length c] w fun e w' => ∃ A' c', e = .returned (.slice A' l.length c') ∧ RowT w' A' c' l ∧ NewA w A' ∧ Below w.heap.size w w' :=
  (cloneS_any A c l w h.k h.nn hl).mono fun _ _ ⟨A', c', h1, h2, h3⟩ => ⟨A', c', h1, rowT_own h2 rfl, newA_own h2, h3⟩
theorem cloneW_row (A : Option Addr) (c : Nat) (l : List Wr) (w : World) (h : RowW w A c l) (hl : l.length ≤ 1000000) :
    Calls Try.prog 57 #[.slice A l.length c] w fun e w' => ∃ A' c', e = .returned (.slice A' l.length c') ∧ RowW w' A' c' l ∧ NewA w A' ∧ Below w.heap.size w w' :=
  (cloneW_any A c l w h.k h.nn hl).mono fun _ _ ⟨A', c', h1, h2, h3⟩ => ⟨A', c', h1, rowW_own h2 rfl, newA_own h2, h3⟩

set_option maxHeartbeats 8000000 in
set_option maxRecDepth 100000 in
theorem copyOf_any (d : Dk) (kA : Option Addr) (kc : Nat) (wA : Option Addr) (wc : Nat) (w : World) (hA : At w d kA kc wA wc) (hk : d.ks.length ≤ 1000000) (hm : d.ws.length ≤ 1000000) :
    Calls Try.prog 42 #[dval d kA kc wA wc] w fun e w' => ∃ kA' kc' wA' wc', e = .returned (dval d kA' kc' wA' wc') ∧ At w' d kA' kc' wA' wc' ∧ NewA w kA' ∧ NewA w wA' ∧ Below w.heap.size w w' := by
  have H1 : Hid (∀ W, Below w.heap.size w W → Calls Try.prog 43 #[.slice kA d.ks.length kc] W fun e w' => ∃ A' c', e = .returned (.slice A' d.ks.length c') ∧ RowT w' A' c' d.ks ∧ NewA W A' ∧ Below W.heap.size W w') :=
    Lib.hid fun W hW => cloneS_row kA kc d.ks W (hA.rowT.below hW) hk
  have H2 : Hid (∀ W, Below w.heap.size w W → Calls Try.prog 57 #[.slice wA d.ws.length wc] W fun e w' => ∃ A' c', e = .returned (.slice A' d.ws.length c') ∧ RowW w' A' c' d.ws ∧ NewA W A' ∧ Below W.heap.size W w') :=
    Lib.hid fun W hW => cloneW_row wA wc d.ws W (hA.rowW.below hW) hm
  have HAT : Hid (∀ W (kA' wA' : Option Addr) (kc' wc' : Nat), RowT W kA' kc' d.ks → RowW W wA' wc' d.ws → At W d kA' kc' wA' wc') := Lib.hid fun W _ _ _ _ h1 h2 => at_of h1 h2
  clear hA hk hm
  unfold dval
  generalize d.ks.length = n at *
  generalize d.ws.length = m at *
  generalize d.sz = sz at *
  generalize d.off = off at *
  go_enter Try.func42, Try.ntmps42
  go_wp2_with fail
  obtain ⟨V, hV, X1, X2, B1⟩ := two_boxes w (.int .i64 sz) (.slice kA n kc) (.slice wA m wc) (.bool off)
  rw [hV]
  clear hV
  obtain ⟨x0, x1, x2, x3⟩ := X1.four
  have S0 : V.drew.cell? ⟨w.heap.size, 0, none⟩ = some (.int .i64 sz) ∧ V.drew.cell? ⟨w.heap.size, 1, none⟩ = some (.slice kA n kc) ∧ V.drew.cell? ⟨w.heap.size, 2, none⟩ = some (.slice wA m wc) ∧ V.drew.cell? ⟨w.heap.size, 3, none⟩ = some (.bool off) ∧ Below w.heap.size w V.drew := ⟨x0, x1, x2, x3, B1.drew⟩
  have HX2 : Hid (Bx V.drew (w.heap.size + 1) 25 #[.int .i64 0, .slice none 0 0, .slice none 0 0, .bool false]) := Lib.hid X2
  clear X1 X2 B1 x0 x1 x2 x3
  go_region_held3 (fun W => W.cell? ⟨w.heap.size, 0, none⟩ = some (.int .i64 sz) ∧ W.cell? ⟨w.heap.size, 1, none⟩ = some (.slice kA n kc) ∧ W.cell? ⟨w.heap.size, 2, none⟩ = some (.slice wA m wc) ∧ W.cell? ⟨w.heap.size, 3, none⟩ = some (.bool off) ∧ Below w.heap.size w W)
    (first
      | assumption
      | exact next5' S0 (by assumption)
      | exact next5' (by assumption) (by assumption)
      | exact S0
      | (refine ⟨?_, ?_, ?_, ?_, ?_⟩; (simp [go_sem, *]); (simp [go_sem, *]); (simp [go_sem, *]); (simp [go_sem, *]); (exact four_below (And.right (And.right (And.right (And.right (by assumption))))) (by omega) _ _ _ _)))
    (first
      | (go_at_call 43; (with_reducible refine (H1.out _ (by first | exact S0.2.2.2.2 | exact (And.right (And.right (And.right (And.right (by assumption))))))).mono ?_); rintro e w1' ⟨A1, c1, rfl, hr1, hn1, hb1⟩; have z1 : Hid (Bx w1' (w.heap.size + 1) 25 #[.int .i64 0, .slice none 0 0, .slice none 0 0, .bool false]) := Lib.hid (by first | exact Bx.below HX2.out hb1 | exact Bx.below (Hid.out (by assumption)) hb1); obtain ⟨y0, y1, y2, y3⟩ := z1.out.four; have y4 := z1.out.frozen)
      | (go_at_call 57; (with_reducible refine (H2.out _ (by first | exact S0.2.2.2.2 | exact (And.right (And.right (And.right (And.right (by assumption))))))).mono ?_); rintro e w2' ⟨A2, c2, rfl, hr2, hn2, hb2⟩; have z2 : Hid (Bx w2' (w.heap.size + 1) 25 #[.int .i64 0, .slice none 0 0, .slice none 0 0, .bool false]) := Lib.hid (by first | exact Bx.below HX2.out hb2 | exact Bx.below (Hid.out (by assumption)) hb2); obtain ⟨y0, y1, y2, y3⟩ := z2.out.four; have y4 := z2.out.frozen))
  all_goals
    rename_i hS
    have B9 := hS.2.2.2.2
    have hs0 := S0.2.2.2.2.size
    have N1 : NewA w A1 := by first | exact hn1.mono hs0 | exact hn1.mono (Nat.le_trans hs0 hb2.size)
    have N2 : NewA w A2 := by first | exact hn2.mono hs0 | exact hn2.mono (Nat.le_trans hs0 hb1.size)
    have E1 : ∀ b, A1.map (·.block) = some b → b ≠ w.heap.size + 1 := by first | exact hn1.ne HX2.out.lt | exact hn1.ne z2.out.lt
    have E2 : ∀ b, A2.map (·.block) = some b → b ≠ w.heap.size + 1 := by first | exact hn2.ne HX2.out.lt | exact hn2.ne z1.out.lt
    go_wp2_with fail
    refine bodyPost_ret (v := .agg #[.int .i64 sz, .slice A1 n c1, .slice A2 m c2, .bool off]) (by simp [results, Try.results42, go_sem, *]) rfl ⟨A1, c1, A2, c2, rfl, HAT.out _ _ _ _ _ (RowT.four ?_ E1 _ _ _ _) (RowW.four ?_ E2 _ _ _ _), N1, N2, B9⟩
    · first | exact hr1.below hb2 | exact hr1
    · first | exact hr2.below hb1 | exact hr2
end Go.Proofs.Ytpkoonokagchgaa
