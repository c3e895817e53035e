/- What Image of package disk answers of a right disk: the sectors with all writes done. -/
import Derived.Test.YtpkoonokagchgaaDone
import Derived.Test.YtpkoonokagchgaaRefSync
import Derived.Test.YtpkoonokagchgaaTorn
import Derived.Shelf.Abstract
namespace Go.Proofs.Ytpkoonokagchgaa
open Go.ChangeShapes Go.WideShapes Go.ChangeAt Go.RowKit Go.Shelf

theorem values_any (A : Option Addr) (n c : Nat) (w : World) : Calls Try.prog 46 #[.slice A n c] w fun e w' => ∃ Bb, e = .returned (.func (.func 59) #[] #[.pointer (some ⟨Bb, 0, none⟩)]) ∧ Bx w' Bb 23 #[.slice A n c] ∧ Below w.heap.size w w' := by
  go_enter Try.func46, Try.ntmps46
  go_wp2
  go_ret
  exact ⟨w.heap.size, rfl, Bx.new _ _ _, alloc_below _ _⟩
theorem writesTo_any (A : Option Addr) (n c : Nat) (p : Int) (w : World) : Calls Try.prog 41 #[.slice A n c, .int .i64 p] w fun e w' => ∃ Bb Bp, e = .returned (.func (.func 56) #[] #[.pointer (some ⟨Bb, 0, none⟩), .pointer (some ⟨Bp, 0, none⟩)]) ∧ Bx w' Bb 23 #[.slice A n c] ∧ Bx w' Bp 3 #[.int .i64 p] ∧ Below w.heap.size w w' := by
  go_enter Try.func41, Try.ntmps41
  go_wp2
  go_ret
  exact ⟨w.heap.size, w.heap.size + 1, rfl, (Bx.new _ _ _).below (alloc_below _ _), by have := Bx.new (w.alloc (.cells #[.slice A n c] 23)) 3 #[.int .i64 p]; simpa using this, (alloc_below _ _).alloc (by simp) _⟩
theorem tornF_any (A KA : Option Addr) (n c q kc : Nat) (w : World) : Calls Try.prog 44 #[.slice A n c, .slice KA q kc] w fun e w' => ∃ Bk Bb, e = .returned (.func (.func 58) #[] #[.pointer (some ⟨Bk, 0, none⟩), .pointer (some ⟨Bb, 0, none⟩)]) ∧ Bx w' Bb 23 #[.slice A n c] ∧ Bx w' Bk 26 #[.slice KA q kc] ∧ Below w.heap.size w w' := by
  go_enter Try.func44, Try.ntmps44
  go_wp2
  go_ret
  exact ⟨w.heap.size + 1, w.heap.size, rfl, (Bx.new _ _ _).below (alloc_below _ _), by have := Bx.new (w.alloc (.cells #[.slice A n c] 23)) 26 #[.slice KA q kc]; simpa using this, (alloc_below _ _).alloc (by simp) _⟩

theorem RowW.blk {W : World} {A : Option Addr} {c : Nat} {l : List Wr} (h : RowW W A c l) (hl : 0 < l.length) : blkLt A W.heap.size := fun b hb => by
  obtain ⟨b', off, h1, h2, _⟩ := h.cell (j := 0) hl
  subst h1
  simp only [Option.map_some, Option.some.injEq] at hb
  omega

theorem next3' {w V W : World} {a1 a2 : Addr} {v1 v2 : Value} (h : W.cell? a1 = some v1 ∧ W.cell? a2 = some v2 ∧ Below w.heap.size w W) (hb : Below W.heap.size W V) :
    V.cell? a1 = some v1 ∧ V.cell? a2 = some v2 ∧ Below w.heap.size w V :=
  ⟨(hb.cell (cell_lt h.1)).trans h.1, (hb.cell (cell_lt h.2.1)).trans h.2.1, below_trans h.2.2 hb⟩
theorem done_values (d : Dk) (hd : Ok d) (kA : Option Addr) (kc : Nat) (wA : Option Addr) (wc : Nat) (w : World) (hA : At w d kA kc wA wc) (hm : d.ws.length ≤ 1000000) (Bb : Nat) (hb : Bx w Bb 23 #[.slice wA d.ws.length wc]) :
    Calls Try.prog 40 #[.slice kA d.ks.length kc, .func (.func 59) #[] #[.pointer (some ⟨Bb, 0, none⟩)]] w fun e w' => ∃ A' c', e = .returned (.slice A' d.ks.length c') ∧ RowT w' A' c' (imageD d) ∧ NewA w A' ∧ Below w.heap.size w w' :=
  done_any 59 _ (enters_of Try.func59 (by kernel_rfl) rfl) d.ws d.ks kA kc w hA.rowT hd.n1 hd.n2 hd.sized hd.fit fun W hW =>
    values_in 7 (by omega) Bb w.heap.size wA wc d.ws W (hb.below hW) hb.lt (hA.rowW.below hW) (fun hl => hA.rowW.blk hl) hW.size hm

set_option maxHeartbeats 4000000 in
set_option maxRecDepth 100000 in
theorem image_any (d : Dk) (hd : Ok d) (kA : Option Addr) (kc : Nat) (wA : Option Addr) (wc : Nat) (w : World) (hA : At w d kA kc wA wc) (hm : d.ws.length ≤ 1000000) :
    Calls Try.prog 27 #[dval d kA kc wA wc] w fun e w' => ∃ A' c', e = .returned (.slice A' d.ks.length c') ∧ RowT w' A' c' (imageD d) ∧ NewA w A' ∧ Below w.heap.size w w' := by
  have HDN : Hid (∀ W Bb, Below w.heap.size w W → Bx W Bb 23 #[.slice wA d.ws.length wc] → Calls Try.prog 40 #[.slice kA d.ks.length kc, .func (.func 59) #[] #[.pointer (some ⟨Bb, 0, none⟩)]] W fun e w' => ∃ A' c', e = .returned (.slice A' d.ks.length c') ∧ RowT w' A' c' (imageD d) ∧ NewA W A' ∧ Below W.heap.size W w') :=
    Lib.hid fun W Bb hW hb => done_values d hd kA kc wA wc W (hA.below hW) hm Bb hb
  clear hA hd hm
  unfold dval
  generalize d.ks.length = n at *
  generalize d.ws.length = m at *
  generalize imageD d = L at *
  generalize d.sz = sz at *
  generalize d.off = off at *
  go_enter Try.func27, Try.ntmps27
  go_wp2_with fail
  obtain ⟨V, hV⟩ : ∃ V, w.alloc (.cells #[.int .i64 sz, .slice kA n kc, .slice wA m wc, .bool off] 25) = V := ⟨_, rfl⟩
  have X1 : Bx V w.heap.size 25 #[.int .i64 sz, .slice kA n kc, .slice wA m wc, .bool off] := by rw [← hV]; exact Bx.new w 25 _
  have B1 : Below w.heap.size w V := by rw [← hV]; exact alloc_below w _
  rw [hV]
  clear hV
  obtain ⟨x0, x1, x2, x3⟩ := X1.four
  have S0 : V.drew.cell? ⟨w.heap.size, 1, none⟩ = some (.slice kA n kc) ∧ V.drew.cell? ⟨w.heap.size, 2, none⟩ = some (.slice wA m wc) ∧ Below w.heap.size w V.drew := ⟨x1, x2, B1.drew⟩
  clear X1 B1 x0 x1 x2 x3
  go_region_held3 (fun W => W.cell? ⟨w.heap.size, 1, none⟩ = some (.slice kA n kc) ∧ W.cell? ⟨w.heap.size, 2, none⟩ = some (.slice wA m wc) ∧ Below w.heap.size w W)
    (first
      | assumption
      | exact next3' S0 (by assumption)
      | exact next3' (by assumption) (by assumption)
      | exact S0)
    (first
      | (go_at_call 46; (with_reducible refine (values_any _ _ _ _).mono ?_); rintro e w' ⟨Bb, rfl, hbx, hb'⟩)
      | (go_at_call 40; (with_reducible refine (HDN.out _ _ (And.right (And.right (by assumption))) (by assumption)).mono ?_); rintro e w'' ⟨A', c', rfl, hr, hnw, hb''⟩))
  rename_i hS
  have B9 := hS.2.2
  have N9 : NewA w A' := hnw.mono (Nat.le_trans S0.2.2.size hb'.size)
  go_wp2
  go_ret
  exact ⟨A', c', rfl, hr, N9, B9⟩
end Go.Proofs.Ytpkoonokagchgaa
