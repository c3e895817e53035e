/- What the document's own Crash answers of a right disk: the sectors with what is kept of the writes. Conditions: a right disk of at most 1000000 writes. -/
import Derived.Test.YtpkoonokagchgaaRefWrite2
namespace Go.Proofs.Ytpkoonokagchgaa
open Go.ChangeShapes Go.WideShapes Go.ChangeAt Go.RowKit Go.Shelf

/-- What one round of a crash does, by the number that is kept. -/
theorem crash_next {ks : List ByteArray} {ws : List Wr} {q : List Int} {i : Nat} {x : Wr} {n : Int} (hx : ws[i]? = some x) (hn : q[i]? = some n) :
    image ks (tears (ws.take (i + 1)) q) = doW (image ks (tears (ws.take i) q)) (tear x n) := by
  rw [tears_snoc hx hn, image_snoc]
theorem crash_past {ks : List ByteArray} {ws : List Wr} {q : List Int} {i : Nat} (h : q.length ≤ i) :
    image ks (tears (ws.take (i + 1)) q) = image ks (tears (ws.take i) q) := by rw [tears_past h]
theorem crash_none {ks : List ByteArray} {ws : List Wr} {q : List Int} {i : Nat} {x : Wr} {n : Int} (hx : ws[i]? = some x) (hn : q[i]? = some n) (h0 : n ≤ 0) :
    image ks (tears (ws.take (i + 1)) q) = image ks (tears (ws.take i) q) := by rw [crash_next hx hn, doW_nothing (tear_none h0)]
theorem tear_some {x : Wr} {k : Nat} (h : k ≤ x.s.size) : tear x (k : Int) = ⟨x.p, x.s.extract 0 k⟩ := by
  unfold tear
  have : (min (max (k : Int) 0) x.s.size).toNat = k := by omega
  rw [this]
theorem tear_all {x : Wr} {n : Int} (h : (x.s.size : Int) ≤ n) : tear x n = x := by
  unfold tear
  have : (min (max n 0) (x.s.size : Int)).toNat = x.s.size := by omega
  rw [this]
  simp

set_option maxHeartbeats 4000000 in
set_option maxRecDepth 100000 in
theorem refCrash_any (d : Dk) (hd : Ok d) (ks : List Int) (kA : Option Addr) (kc : Nat) (wA : Option Addr) (wc : Nat) (KA : Option Addr) (KC : Nat) (w : World) (hA : At w d kA kc wA wc) (hm : d.ws.length ≤ 1000000) (hK : RowI w KA KC ks) :
    Calls Try.prog 23 #[dval d kA kc wA wc, .slice KA ks.length KC] w fun e w' => ∃ A' c', e = .returned (.agg #[.int .i64 d.sz, .slice A' d.ks.length c', .slice none 0 0, .bool false]) ∧ RowT w' A' c' (crashD d ks) ∧ Below w.heap.size w w' := by
  obtain ⟨i0, hi, hi0, hi1, hi2⟩ := info9
  have HI := Lib.hid hi
  have HI0 := Lib.hid hi0
  have HI1 := Lib.hid hi1
  have HI2 := Lib.hid hi2
  clear hi hi0 hi1 hi2
  have hn1 := hd.n1
  have hn2 := hd.n2
  have HD := Lib.hid hd
  obtain ⟨kb, ko, rfl, hkb, hkc⟩ := hA.ks (by rw [tcells_length]; omega)
  have HKC := Lib.hid hkc
  have HKB := Lib.hid hkb
  have HW := Lib.hid hA.rowW
  have HKI := Lib.hid hK
  have HL : Hid ((tcells d.ks).length = d.ks.length) := Lib.hid (tcells_length _)
  have HIL := Lib.hid (fun k => (image_length d.ks (tears (d.ws.take k) ks)))
  have hfit : Fit d.ks.length d.sz.toNat d.ws := hd.fit
  have HF := Lib.hid hfit
  have HFT : Hid (∀ k, Fit d.ks.length d.sz.toNat (tears (d.ws.take k) ks)) := Lib.hid fun k => tears_fit (hfit.take k) ks
  have hsz := hd.s2
  clear hA hkc hkb hd hfit hK
  unfold dval crashD
  generalize hn : d.ks.length = n at *
  generalize hmm : d.ws.length = m at *
  generalize hqq : ks.length = q at *
  have HN := Lib.hid hn
  have HM := Lib.hid hmm
  have HQ := Lib.hid hqq
  generalize hss : d.sz = sz at *
  have HS := Lib.hid hss
  generalize d.off = off at *
  clear hn hmm hqq hss
  obtain ⟨V, hV, X1, X2, B1⟩ := two_boxes w (.int .i64 sz) (.slice (some ⟨kb, ko, none⟩) n kc) (.slice wA m wc) (.bool off)
  have HX1 := Lib.hid X1
  have HX2 := Lib.hid X2
  have HB1 := Lib.hid B1
  have HV := Lib.hid hV
  obtain ⟨z0, z1, z2, z3⟩ := X1.four
  have zo : ∀ o, (V.alloc o).cell? ⟨w.heap.size, 1, none⟩ = some (.slice (some ⟨kb, ko, none⟩) n kc) := fun o => (X1.below (alloc_below V o)).cell 1 rfl
  clear X1 X2 B1 hV
  go_enter Try.func23, Try.ntmps23
  go_upto_region 1 with fail
  rw [HV.out]
  go_wp2_with (
    at_builtin
    refine wpList_append_own _ rfl _ _ 22 rfl V.heap.size 9 i0 (.string ⟨#[]⟩) 1 16 Try.underlying22 HI.out HI0.out HI1.out HI2.out rfl (by decide) (.slice (some ⟨V.heap.size, 0, none⟩) 0 0) 0 [] rfl (World.ownsRow_made V #[] 0 (Nat.le_refl _) (by decide) rfl) ⟨kb, ko, none⟩ n kc (tcells d.ks) rfl (by rw [HL.out]; omega) (fun j u hu => by rw [add_plain]; exact ((below_trans HB1.out (alloc_below V _)).cell (p := ⟨kb, ko + j, none⟩) HKB.out).trans (HKC.out j u hu)) (tcells_one d.ks) (by unfold maxLen; omega) (by omega) (by simp) ?_
    intro v w1 hown hgrow hiff
    clear hiff
    rw [Nat.zero_add, List.nil_append] at hown
    obtain ⟨A1, c1, rfl⟩ := own_slice hown
    have HB2 : Hid (Below V.heap.size V w1) := Lib.hid ((alloc_below V _).grown hgrow (by simp) (fun g hg => by simp [Value.ownBlock] at hg; omega))
    have HR1 := Lib.hid (rowT_own hown HN.out.symm)
    have HN1 := Lib.hid ((newA_own hown).mono HB1.out.size)
    have HNV := Lib.hid (newA_own hown)
    clear hown hgrow
    skip)
  have HX := Lib.hid (HX1.out.below HB2.out)
  have HY := Lib.hid (HX2.out.below HB2.out)
  have HB3 := Lib.hid (below_trans HB1.out HB2.out)
  have hvs : w.heap.size + 1 < V.heap.size := HX2.out.lt
  have HVW := Lib.hid HB2.out.size
  clear z0 z1 z2 z3 zo HX1 HX2 HB2 HV
  go_loopw [5, 6] (fun v i wr => ∃ (k A c : _), k ≤ m ∧ i = .int .i64 ((k : Nat) : Int) ∧ v = .slice A n c ∧ Hid (RowT wr A c (image d.ks (tears (d.ws.take k) ks))) ∧ Hid (NewA V A) ∧ Below w1.heap.size w1 wr) (fun _ i _ => m - (intOf i).toNat)
  case atStart => exact ⟨0, _, _, Nat.zero_le _, rfl, rfl, HR1, HNV, Below.refl _ _⟩
  case round =>
    rename World => v
    obtain ⟨k, A, c, hk, rfl, rfl, hR, hN, hB⟩ := hrel
    by_cases hlt : k < m
    · have hklen : k < d.ws.length := by rw [HM.out]; exact hlt
      obtain ⟨b, off2, rfl, hb, hcell⟩ := ((HW.out.below HB3.out).below hB).cell hklen
      obtain ⟨x, hx⟩ : ∃ x, d.ws[k]? = some x := ⟨_, List.getElem?_eq_getElem hklen⟩
      obtain ⟨p0, p1⟩ := hcell k x hx
      have XV := HX.out.below hB
      have g2 := XV.cell 2 (v := .slice (some ⟨b, off2, none⟩) m wc) rfl
      have hxl := XV.lt
      have hfx := HF.out.get hx
      have hil := HIL.out k
      have hxs : x.s.size ≤ 1024 := by have := hfx.2.2; omega
      have HXX := Lib.hid hx
      have S0 : v.drew.cell? ⟨w.heap.size, 2, none⟩ = some (.slice (some ⟨b, off2, none⟩) m wc) ∧ v.drew.cell? ⟨b, off2 + k * 2, none⟩ = some (.int .i64 x.p) ∧ v.drew.cell? ⟨b, off2 + k * 2 + 1, none⟩ = some (.string x.s) ∧ Below v.heap.size v v.drew := ⟨g2, p0, p1, drew_below v⟩
      have HR : Hid (∀ (t : Wr) W, t.p = x.p → t.s.size ≤ x.s.size → Below v.heap.size v W → Calls Try.prog 45 #[.slice A n c, .int .i64 x.p, .string t.s] W fun e w' => ∃ A' c', e = .returned (.slice A' n c') ∧ Hid (RowT w' A' c' (doW (image d.ks (tears (d.ws.take k) ks)) t)) ∧ Hid (NewA V A') ∧ Below W.heap.size W w') := Lib.hid fun t W htp hts hW => by
        have hs := HD.out.sized.image (ws := tears (d.ws.take k) ks) (by rw [HN.out, HS.out]; exact HFT.out k)
        have := apply_row A c W (hR.out.below hW) hs (by have := HD.out.s2; omega) (by omega) (x := t) (by rw [hil, htp]; exact ⟨hfx.1, hfx.2.1, by rw [HS.out]; have := hfx.2.2; omega⟩)
        rw [hil, htp] at this
        exact this.mono fun e w' ⟨A', c', h1, h2, h4, h3⟩ => ⟨A', c', h1, Lib.hid h2, Lib.hid (h4.mono (Nat.le_trans (Nat.le_trans HVW.out hB.size) hW.size)), h3⟩
      clear hcell hfx hil XV hx hklen
      by_cases hkq : k < q
      · have hkl : k < ks.length := by rw [HQ.out]; exact hkq
        obtain ⟨kb2, ko2, rfl, hkb2, hkc2⟩ := ((HKI.out.below HB3.out).below hB).cell hkl
        obtain ⟨nn, hnn⟩ : ∃ nn, ks[k]? = some nn := ⟨_, List.getElem?_eq_getElem hkl⟩
        have r0 := hkc2 k nn hnn
        have HNN := Lib.hid hnn
        clear hkc2 hnn hkl
        by_cases h0 : nn ≤ 0
        · have h1 : ¬ ((x.s.size : Int) < nn) := by omega
          go_wp2_with fail
          go_roundw
          case rel => exact ⟨k + 1, A, c, by omega, by go_num, rfl, by rw [crash_none HXX.out HNN.out h0]; exact hR, hN, hB⟩
          case measure => simp [intOf]; omega
        · by_cases h2 : nn ≤ (x.s.size : Int)
          · obtain ⟨j2, rfl⟩ : ∃ j2 : Nat, nn = (j2 : Int) := ⟨nn.toNat, by omega⟩
            have h3 : j2 ≤ x.s.size := by omega
            have h4 : 0 < j2 := by omega
            have h5 : (x.s.extract 0 j2).size ≤ x.s.size := by rw [ByteArray.size_extract]; omega
            go_wp2_with fail
            go_region_held3 (fun W => W.cell? ⟨w.heap.size, 2, none⟩ = some (.slice (some ⟨b, off2, none⟩) m wc) ∧ W.cell? ⟨b, off2 + k * 2, none⟩ = some (.int .i64 x.p) ∧ W.cell? ⟨b, off2 + k * 2 + 1, none⟩ = some (.string x.s) ∧ Below v.heap.size v W)
              (first
                | assumption
                | exact next3 hxl hb hb S0 (by assumption)
                | exact next3 hxl hb hb (by assumption) (by assumption)
                | exact S0)
              (first
                | (go_at_call 45; (with_reducible refine (HR.out (⟨x.p, x.s.extract 0 j2⟩) _ rfl h5 (by first | exact (S0).2.2.2 | (apply And.right; apply And.right; apply And.right; assumption))).mono ?_); rintro e w' ⟨A', c', rfl, hr, hnw, hb'⟩))
            rename_i hS
            have B9 := below_trans hB hS.2.2.2
            clear hS S0 g2
            go_wp2
            go_roundw
            case rel => exact ⟨k + 1, A', c', by omega, by go_num, rfl, by rw [crash_next HXX.out HNN.out, tear_some h3]; exact hr, hnw, B9⟩
            case measure => simp [intOf]; omega
          · have h3 : (x.s.size : Int) < nn := by omega
            have h4 : (x.s.size : Int) ≤ nn := by omega
            have h5 : 0 < x.s.size := by have := (HD.out.w x (List.mem_of_getElem? HXX.out)).2.2.1; omega
            have h7 : image d.ks (tears (d.ws.take (k + 1)) ks) = doW (image d.ks (tears (d.ws.take k) ks)) x := by rw [crash_next HXX.out HNN.out, tear_all h4]
            have H7 := Lib.hid h7
            clear h7
            go_wp2_with fail
            go_region_held3 (fun W => W.cell? ⟨w.heap.size, 2, none⟩ = some (.slice (some ⟨b, off2, none⟩) m wc) ∧ W.cell? ⟨b, off2 + k * 2, none⟩ = some (.int .i64 x.p) ∧ W.cell? ⟨b, off2 + k * 2 + 1, none⟩ = some (.string x.s) ∧ Below v.heap.size v W)
              (first
                | assumption
                | exact next3 hxl hb hb S0 (by assumption)
                | exact next3 hxl hb hb (by assumption) (by assumption)
                | exact S0)
              (first
                | (go_at_call 45; (with_reducible refine (HR.out x _ rfl (Nat.le_refl _) (by first | exact (S0).2.2.2 | (apply And.right; apply And.right; apply And.right; assumption))).mono ?_); rintro e w' ⟨A', c', rfl, hr, hnw, hb'⟩))
            rename_i hS
            have B9 := below_trans hB hS.2.2.2
            clear hS S0 g2
            go_wp2
            go_roundw
            case rel => exact ⟨k + 1, A', c', by omega, by go_num, rfl, by rw [H7.out]; exact hr, hnw, B9⟩
            case measure => simp [intOf]; omega
      · have h1 : ¬ ((x.s.size : Int) < 0) := by omega
        go_wp2_with fail
        go_roundw
        case rel => exact ⟨k + 1, A, c, by omega, by go_num, rfl, by rw [crash_past (by rw [HQ.out]; omega)]; exact hR, hN, hB⟩
        case measure => simp [intOf]; omega
    · obtain rfl : k = m := by omega
      have htk : d.ws.take k = d.ws := List.take_of_length_le (by have := HM.out; omega)
      have hR2 := hR.out
      rw [htk] at hR2
      have HB4 := Lib.hid (below_trans HB3.out hB)
      obtain ⟨x0, x1, x2, x3⟩ := (HX.out.below hB).four
      obtain ⟨y0, y1, y2, y3⟩ := (HY.out.below hB).four
      have y4 := (HY.out.below hB).frozen
      have HRR := Lib.hid (hR2.four (r := w.heap.size + 1) (hN.out.ne hvs) (.int .i64 sz) (.slice A n c) (.slice none 0 0) (.bool false))
      have HBB := Lib.hid (four_below (r := w.heap.size + 1) HB4.out (by omega) (.int .i64 sz) (.slice A n c) (.slice none 0 0) (.bool false))
      clear hR htk hR2 HB4 hB
      go_wp2_with fail
      exact bodyPost_ret (v := .agg #[.int .i64 sz, .slice A n c, .slice none 0 0, .bool false]) (by simp [results, Try.results23, go_sem, *]) rfl ⟨A, c, rfl, HRR.out, HBB.out⟩
end Go.Proofs.Ytpkoonokagchgaa
