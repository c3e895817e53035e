/- The closure that does one write to the sectors. -/
import Derived.Test.YtpkoonokagchgaaConv
namespace Go.Proofs.Ytpkoonokagchgaa
open Go.ChangeShapes Go.WideShapes Go.ChangeAt Go.RowKit

set_option maxHeartbeats 4000000 in
set_option maxRecDepth 100000 in
theorem do_any {z : Nat} {l : List ByteArray} {x : Wr} (Bs g c base : Nat) (W : World) (hs : Bx W Bs 22 #[.slice (some ⟨g, 0, none⟩) l.length c]) (hown : W.ownsRow base 9 1 (.slice (some ⟨g, 0, none⟩) l.length c) l.length (tcells l)) (hsz : Sized z l)
    (hx : 0 ≤ x.p ∧ x.p < l.length ∧ x.s.size ≤ z) :
    Calls Try.prog 55 #[.agg #[.int .i64 x.p, .string x.s], .pointer (some ⟨Bs, 0, none⟩)] W fun e W' => (∃ v, e = .returned v) ∧ W'.ownsRow base 9 1 (.slice (some ⟨g, 0, none⟩) l.length c) l.length (tcells (doW l x)) ∧ W.grownBy W' (some g) := by
  obtain ⟨h0, h1, h2⟩ := hx
  obtain ⟨p, hp⟩ : ∃ p : Nat, x.p = (p : Int) := ⟨x.p.toNat, by omega⟩
  have hi : p < l.length := by omega
  obtain ⟨t, ht⟩ : ∃ t, l[p]? = some t := ⟨_, List.getElem?_eq_getElem hi⟩
  have hts := hsz.get ht
  have hst : x.s.size ≤ t.size := by omega
  have hdo : tcells (doW l x) = (tcells l).set p (.string (put t x.s)) := by
    unfold doW
    rw [hp, Int.toNat_natCast, List.getD_eq_getElem?_getD, ht, Option.getD_some, tcells_set]
  rw [hdo]
  have hT := tcells_get ht
  have hglt := (hown.lt g rfl).2
  have hgB : g ≠ Bs := by
    intro he
    subst he
    obtain ⟨h1, h2 | ⟨g', cap, cur, h3, h4, h5, _⟩⟩ := hown
    · simp at h2
    · simp only [Value.slice.injEq, Option.some.injEq, Addr.mk.injEq, and_true, true_and] at h3
      obtain ⟨rfl, _⟩ := h3
      unfold Bx at hs
      rw [hs] at h5
      simp at h5
  have gs : ∀ o, (W.alloc o).cell? ⟨Bs, 0, none⟩ = some (.slice (some ⟨g, 0, none⟩) l.length c) := fun o => (hs.below (alloc_below W o)).cell 0 rfl
  have gt : ∀ o, (W.alloc o).cell? ⟨g, p, none⟩ = some (.string t) := fun o => by
    rw [(bcell (alloc_below W o)).1 _ _ hglt, hown.cellAt p (by omega)]
    exact hT
  obtain ⟨W1, cap, W2, r1, b1, z1, r2, b2, r3⟩ := put_run (W.alloc (.cells #[.int .i64 x.p, .string x.s] 55)) t x.s hst
  have k2 := (Bx.new W 55 #[.int .i64 x.p, .string x.s]).below b2
  have e1 : W1.cell? ⟨W.heap.size, 1, none⟩ = some (.string x.s) := ((Bx.new W 55 #[.int .i64 x.p, .string x.s]).below b1).cell 1 rfl
  have e2 : W2.cell? ⟨W.heap.size, 0, none⟩ = some (.int .i64 x.p) := k2.cell 0 rfl
  have e3 : W2.cell? ⟨Bs, 0, none⟩ = some (.slice (some ⟨g, 0, none⟩) l.length c) := ((hs.below (alloc_below W _)).below b2).cell 0 rfl
  have B2 : Below W.heap.size W W2 := below_trans (alloc_below W _) b2
  have own2 := owns_below hown B2
  have e4 : W2.cell? ⟨g, p, none⟩ = some (.string t) := by rw [own2.cellAt p (by omega)]; exact hT
  have e5 := own2.frozenAt p
  have HS := Lib.hid (own2.stored p (.string (put t x.s)))
  have HB2 := Lib.hid B2
  have HG := Lib.hid hglt
  have q2 := r2 3
  have hza : (W.alloc (.cells #[.int .i64 x.p, .string x.s] 55)).heap.size = W.heap.size + 1 := by simp
  rw [hza] at r1 q2 r3
  clear hza r2 k2 b1 b2 z1 B2 own2 hown hs hT hsz ht hdo hts hgB hglt
  generalize hxp : x.p = xp at *
  subst hp
  generalize x.s = xs at *
  generalize put t xs = y at *
  generalize l.length = n at *
  go_enter Try.func55, Try.ntmps55
  go_wp2
  go_end0
  have hb := HB2.out
  have hg := HS.out.2
  exact ⟨⟨_, rfl⟩, HS.out.1, hg.os.trans hb.os, hg.tape.trans hb.tape, hg.output.trans hb.output, Nat.le_trans hb.size hg.size, fun k hk hne => (hg.block k (Nat.lt_of_lt_of_le hk hb.size) hne).trans (hb.block k hk)⟩
end Go.Proofs.Ytpkoonokagchgaa
