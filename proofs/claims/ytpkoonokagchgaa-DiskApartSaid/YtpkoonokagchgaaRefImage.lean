/- What the document's own Image answers of a right disk. -/
import Derived.Test.YtpkoonokagchgaaApply
namespace Go.Proofs.Ytpkoonokagchgaa
open Go.ChangeShapes Go.WideShapes Go.ChangeAt Go.RowKit

/-- The row lies in a block that was not there. -/
def NewA (w : World) (A : Option Addr) : Prop := ∀ b, A.map (·.block) = some b → w.heap.size ≤ b
theorem newA_own {w W : World} {e : TypeId} {size : Nat} {A : Option Addr} {n c : Nat} {xs : List Value} (h : W.ownsRow w.heap.size e size (.slice A n c) n xs) : NewA w A := fun b hb => by
  rcases h.2 with ⟨h1, _⟩ | ⟨g, cap, cur, h1, hg, _⟩
  · simp only [Value.slice.injEq] at h1
    obtain ⟨rfl, _⟩ := h1
    simp at hb
  · simp only [Value.slice.injEq] at h1
    obtain ⟨rfl, _⟩ := h1
    simp only [Option.map_some, Option.some.injEq] at hb
    omega
theorem newA_none (w : World) : NewA w none := fun b hb => by simp at hb
theorem NewA.mono {w w1 : World} {A : Option Addr} (h : NewA w1 A) (hs : w.heap.size ≤ w1.heap.size) : NewA w A := fun b hb => Nat.le_trans hs (h b hb)
theorem NewA.ne {w : World} {A : Option Addr} (h : NewA w A) {r : Nat} (hr : r < w.heap.size) : ∀ b, A.map (·.block) = some b → b ≠ r := fun b hb => by have := h b hb; omega

theorem apply_row {z : Nat} {l : List ByteArray} {x : Wr} (A : Option Addr) (c : Nat) (w : World) (hr : RowT w A c l) (hs : Sized z l) (hz : z ≤ 1024) (hl : l.length ≤ 4096) (hx : 0 ≤ x.p ∧ x.p < l.length ∧ x.s.size ≤ z) :
    Calls Try.prog 45 #[.slice A l.length c, .int .i64 x.p, .string x.s] w fun e w' => ∃ A' c', e = .returned (.slice A' l.length c') ∧ RowT w' A' c' (doW l x) ∧ NewA w A' ∧ Below w.heap.size w w' := by
  obtain ⟨h0, h1, h2⟩ := hx
  have hi : x.p.toNat < l.length := by omega
  have hget : l[x.p.toNat]? = some l[x.p.toNat] := List.getElem?_eq_getElem hi
  have hsz : (l[x.p.toNat]).size = z := hs.get hget
  have hp : ((x.p.toNat : Nat) : Int) = x.p := by omega
  have := apply_any A c l x.p.toNat _ x.s w hr.k (by omega) hget (by omega) (by omega)
  rw [hp] at this
  exact this.mono fun e w' ⟨A', c', h1, h2, h3⟩ => ⟨A', c', h1, rowT_own h2 (doW_length l x).symm, newA_own h2, h3⟩

theorem disk_box (W : World) (d : Dk) (kA : Option Addr) (kc : Nat) (wA : Option Addr) (wc : Nat) :
    Bx (W.alloc (.cells #[.int .i64 d.sz, .slice kA d.ks.length kc, .slice wA d.ws.length wc, .bool d.off] 25)) W.heap.size 25 #[.int .i64 d.sz, .slice kA d.ks.length kc, .slice wA d.ws.length wc, .bool d.off] := Bx.new _ _ _

/-- Three cells that stay. -/
theorem next3 {V W W' : World} {a0 a1 a2 : Addr} {v0 v1 v2 : Value} (h0 : a0.block < V.heap.size) (h1 : a1.block < V.heap.size) (h2 : a2.block < V.heap.size)
    (h : W.cell? a0 = some v0 ∧ W.cell? a1 = some v1 ∧ W.cell? a2 = some v2 ∧ Below V.heap.size V W) (hb : Below W.heap.size W W') :
    W'.cell? a0 = some v0 ∧ W'.cell? a1 = some v1 ∧ W'.cell? a2 = some v2 ∧ Below V.heap.size V W' := by
  obtain ⟨s0, s1, s2, sb⟩ := h
  have hz := sb.size
  exact ⟨(hb.cell (by omega)).trans s0, (hb.cell (by omega)).trans s1, (hb.cell (by omega)).trans s2, below_trans sb hb⟩

theorem made2 (w : World) (o : Obj) (e : TypeId) (size : Nat) : ((w.alloc o).alloc (.cells #[] e)).ownsRow w.heap.size e size (.slice (some ⟨w.heap.size + 1, 0, none⟩) 0 0) 0 [] := by
  have h := World.ownsRow_made (base := w.heap.size) (e := e) (size := size) (w.alloc o) #[] 0 (by simp) (by decide) (by simp)
  have hz : (w.alloc o).heap.size = w.heap.size + 1 := by simp
  rw [hz] at h
  exact h

set_option maxHeartbeats 4000000 in
set_option maxRecDepth 100000 in
theorem refImage_any (d : Dk) (hd : Ok d) (kA : Option Addr) (kc : Nat) (wA : Option Addr) (wc : Nat) (w : World) (hA : At w d kA kc wA wc) (hm : d.ws.length ≤ 1000000) :
    Calls Try.prog 28 #[dval d kA kc wA wc] w fun e w' => ∃ A' c', e = .returned (.slice A' d.ks.length c') ∧ RowT w' A' c' (imageD d) ∧ NewA w A' ∧ Below w.heap.size w w' := by
  obtain ⟨i0, hi, hi0, hi1, hi2⟩ := info9
  have HI := Lib.hid hi
  have HI0 := Lib.hid hi0
  have HI1 := Lib.hid hi1
  have HI2 := Lib.hid hi2
  clear hi hi0 hi1 hi2
  have hn1 := hd.n1
  have hn2 := hd.n2
  have HD := Lib.hid hd
  obtain ⟨kb, ko, rfl, hkb, hkc⟩ := hA.ks (by rw [tcells_length]; omega)
  have HKC := Lib.hid hkc
  have HKB := Lib.hid hkb
  have HW := Lib.hid hA.rowW
  have HL : Hid ((tcells d.ks).length = d.ks.length) := Lib.hid (tcells_length _)
  have HIL := Lib.hid (fun k => (image_length d.ks (d.ws.take k)))
  have HB0 : ∀ os, Hid (Below w.heap.size w (w.alloc os)) := fun os => Lib.hid (alloc_below w os)
  have hfit : Fit d.ks.length d.sz.toNat d.ws := hd.fit
  have HF := Lib.hid hfit
  clear hA hkc hkb hd hfit
  unfold dval
  generalize hn : d.ks.length = n at *
  generalize hmm : d.ws.length = m at *
  have HN := Lib.hid hn
  have HM := Lib.hid hmm
  clear hn hmm
  go_enter Try.func28, Try.ntmps28
  go_wp2_with (
    at_builtin
    refine wpList_append_own _ rfl _ _ 22 rfl w.heap.size 9 i0 (.string ⟨#[]⟩) 1 16 Try.underlying22 HI.out HI0.out HI1.out HI2.out rfl (by decide) (.slice (some ⟨w.heap.size + 1, 0, none⟩) 0 0) 0 [] rfl (made2 w _ 9 1) ⟨kb, ko, none⟩ n kc (tcells d.ks) rfl (by rw [HL.out]; omega) (fun j u hu => by rw [add_plain]; exact ((((HB0 _).out.alloc (by simp) _)).cell (p := ⟨kb, ko + j, none⟩) HKB.out).trans (HKC.out j u hu)) (tcells_one d.ks) (by unfold maxLen; omega) (by omega) (by simp; omega) ?_
    intro v w1 hown hgrow hiff
    clear hiff
    rw [Nat.zero_add, List.nil_append] at hown
    obtain ⟨A1, c1, rfl⟩ := own_slice hown
    have B1 := ((HB0 _).out.alloc (by simp) _).grown hgrow (by simp; omega) (fun g hg => by simp [Value.ownBlock] at hg; omega)
    have X1 : Bx w1 w.heap.size 25 #[.int .i64 d.sz, .slice (some ⟨kb, ko, none⟩) n kc, .slice wA m wc, .bool d.off] := (hgrow.block w.heap.size (by simp; omega) (by simp [Value.ownBlock])).trans ((Bx.new w 25 _).below (alloc_below _ _))
    have R1 := rowT_own hown HN.out.symm
    have N1 := Lib.hid (newA_own hown)
    clear hown hgrow
    skip)
  have HX := Lib.hid X1
  have HB1 := Lib.hid B1
  have HR1 := Lib.hid R1
  clear X1 B1 R1
  go_loopw [3, 4] (fun v i wr => ∃ (k A c : _), k ≤ m ∧ i = .int .i64 ((k : Nat) : Int) ∧ v = .slice A n c ∧ Hid (RowT wr A c (image d.ks (d.ws.take k))) ∧ Hid (NewA w A) ∧ Below w1.heap.size w1 wr) (fun _ i _ => m - (intOf i).toNat)
  case atStart => exact ⟨0, _, _, Nat.zero_le _, rfl, rfl, HR1, N1, Below.refl _ _⟩
  case round =>
    rename World => v
    obtain ⟨k, A, c, hk, rfl, rfl, hR, hN, hB⟩ := hrel
    by_cases hlt : k < m
    · have hklen : k < d.ws.length := by rw [HM.out]; exact hlt
      obtain ⟨b, off, rfl, hb, hcell⟩ := ((HW.out.below HB1.out).below hB).cell hklen
      obtain ⟨x, hx⟩ : ∃ x, d.ws[k]? = some x := ⟨_, List.getElem?_eq_getElem hklen⟩
      obtain ⟨p0, p1⟩ := hcell k x hx
      have XV := HX.out.below hB
      have g2 := XV.cell 2 (v := .slice (some ⟨b, off, none⟩) m wc) rfl
      have hxl := XV.lt
      have hfx := HF.out.get hx
      have hil := HIL.out k
      have HR : Hid (∀ W, Below v.heap.size v W → Calls Try.prog 45 #[.slice A n c, .int .i64 x.p, .string x.s] W fun e w' => ∃ A' c', e = .returned (.slice A' n c') ∧ Hid (RowT w' A' c' (image d.ks (d.ws.take (k + 1)))) ∧ Hid (NewA w A') ∧ Below W.heap.size W w') := Lib.hid fun W hW => by
        have hs := HD.out.sized.image (by rw [HN.out]; exact HF.out.take k)
        have := apply_row A c W (hR.out.below hW) hs (by have := HD.out.s2; omega) (by omega) (x := x) (by rw [hil]; exact hfx)
        rw [hil] at this
        have e2 : image d.ks (d.ws.take (k + 1)) = doW (image d.ks (d.ws.take k)) x := by
          rw [List.take_add_one, hx, Option.toList_some, image_snoc]
        rw [e2]
        exact this.mono fun e w' ⟨A', c', h1, h2, h4, h3⟩ => ⟨A', c', h1, Lib.hid h2, Lib.hid (h4.mono (Nat.le_trans (Nat.le_trans HB1.out.size hB.size) hW.size)), h3⟩
      have S0 : v.drew.cell? ⟨w.heap.size, 2, none⟩ = some (.slice (some ⟨b, off, none⟩) m wc) ∧ v.drew.cell? ⟨b, off + k * 2, none⟩ = some (.int .i64 x.p) ∧ v.drew.cell? ⟨b, off + k * 2 + 1, none⟩ = some (.string x.s) ∧ Below v.heap.size v v.drew := ⟨g2, p0, p1, drew_below v⟩
      clear p0 p1 hcell hfx hil XV hx hklen hR
      go_wp2_with fail
      go_region_held3 (fun W => W.cell? ⟨w.heap.size, 2, none⟩ = some (.slice (some ⟨b, off, none⟩) m wc) ∧ W.cell? ⟨b, off + k * 2, none⟩ = some (.int .i64 x.p) ∧ W.cell? ⟨b, off + k * 2 + 1, none⟩ = some (.string x.s) ∧ Below v.heap.size v W)
        (first
          | assumption
          | exact next3 hxl hb hb S0 (by assumption)
          | exact next3 hxl hb hb (by assumption) (by assumption)
          | exact S0)
        (first
          | (go_at_call 45; (with_reducible refine (HR.out _ (by first | exact (S0).2.2.2 | (apply And.right; apply And.right; apply And.right; assumption))).mono ?_); rintro e w' ⟨A', c', rfl, hr, hnw, hb'⟩))
      rename_i hS
      have B9 := below_trans hB hS.2.2.2
      clear hS S0 g2
      go_wp2
      go_roundw
      case rel => exact ⟨k + 1, A', c', by omega, by go_num, rfl, hr, hnw, B9⟩
      case measure => simp [intOf]; omega
    · obtain rfl : k = m := by omega
      have htk : d.ws.take k = d.ws := List.take_of_length_le (by have := HM.out; omega)
      have g2 := (HX.out.below hB).cell 2 (v := .slice wA k wc) rfl
      have hR2 := hR.out
      rw [htk] at hR2
      clear hR htk
      go_wp2
      go_ret
      exact ⟨A, c, rfl, hR2, hN.out, below_trans HB1.out hB⟩
end Go.Proofs.Ytpkoonokagchgaa
