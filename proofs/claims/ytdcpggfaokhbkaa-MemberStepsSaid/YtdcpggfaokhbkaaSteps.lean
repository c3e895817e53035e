/- What Steps answers: how many nodes there are above the i-th of n leaves; -1, if there is no such leaf, or n is above 4096. -/
import Derived.Test.YtdcpggfaokhbkaaAbove
import Derived.Test.YtdcpggfaokhbkaaTwo
namespace Go.Proofs.Ytdcpggfaokhbkaa
open Go.ChangeShapes Go.WideShapes Go.ChangeAt Go.RowKit
attribute [local go_sem] Oper.semAt_some

theorem boxed_under {W W' : World} {B : Nat} {t : TypeId} {v : Value} (h : Boxed W B t v) (hb : Below W.heap.size W W') : Boxed W' B t v := (hb.block B h.lt).trans h
theorem boxed_held {W W' : World} {B s : Nat} {t : TypeId} {v : Value} (h : Boxed W B t v) (hc : Cells s W W') (hs : B ≠ s) : Boxed W' B t v := hc B _ h rfl hs

theorem alloc_below (W : World) (o : Obj) : Below W.heap.size W (W.alloc o) := (Below.refl _ W).alloc (Nat.le_refl _) o

set_option maxRecDepth 100000 in
set_option maxHeartbeats 4000000 in
theorem above1_in (n : Nat) (hn : 1 ≤ n) (i t bi bn s : Nat) (w : World) (hi : Boxed w bi 3 (.int .i64 (i : Int))) (ht : Boxed w bn 3 (.int .i64 (t : Int))) (hs1 : bi ≠ s) (hs3 : s < w.heap.size) (hit : i < t) (hT : t ≤ 4096) :
    SeqCount Fence.wide n Try.prog 9 #[.pointer (some ⟨bi, 0, none⟩), .pointer (some ⟨bn, 0, none⟩)] s (sp i t) w := by
  intro l J W hW hJ hY h0
  have xi : Boxed W bi 3 (.int .i64 (i : Int)) := (hW.block bi hi.lt).trans hi
  have xn : Boxed W bn 3 (.int .i64 (t : Int)) := (hW.block bn ht.lt).trans ht
  have hsW : s < W.heap.size := Nat.lt_of_lt_of_le hs3 hW.size
  have b1 : Below W.heap.size W (W.alloc (.cells #[.func (.yield l) #[] #[]] 25)) := alloc_below _ _
  have b3 : Below W.heap.size W ((W.alloc (.cells #[.func (.yield l) #[] #[]] 25)).alloc (.cells #[upV bi (W.heap.size + 1) W.heap.size] 25)) := b1.alloc (by simp) _
  have z1 : Boxed ((W.alloc (.cells #[.func (.yield l) #[] #[]] 25)).alloc (.cells #[upV bi (W.heap.size + 1) W.heap.size] 25)) W.heap.size 25 (.func (.yield l) #[] #[]) := (Boxed.new W 25 _).alloc _
  have z2 : Boxed ((W.alloc (.cells #[.func (.yield l) #[] #[]] 25)).alloc (.cells #[upV bi (W.heap.size + 1) W.heap.size] 25)) (W.heap.size + 1) 25 (upV bi (W.heap.size + 1) W.heap.size) := by
    have := Boxed.new (W.alloc (.cells #[.func (.yield l) #[] #[]] 25)) 25 (upV bi (W.heap.size + 1) W.heap.size)
    simpa using this
  have zi := boxed_under xi b3
  have zn := (boxed_under xn b3).cell
  have HU := Lib.hid (up_in n hn l (sp i t) i bi (W.heap.size + 1) W.heap.size
    (fun k X => J k X ∧ Boxed X bi 3 (.int .i64 (i : Int)) ∧ Boxed X (W.heap.size + 1) 25 (upV bi (W.heap.size + 1) W.heap.size) ∧ Boxed X W.heap.size 25 (.func (.yield l) #[] #[]))
    (fun k X h => ⟨h.2.1.cell, h.2.2.1.cell, h.2.2.2.cell⟩)
    (fun k x y X h hk => by
      obtain ⟨fn0, tmps0, assign0, body0, hy0, hr0⟩ := hY k x y X h.1 hk
      refine ⟨fn0, tmps0, assign0, body0, hy0, hr0.mono ?_⟩
      rintro e W' ⟨rfl, j1, c1⟩
      exact ⟨rfl, j1, boxed_held h.2.1 c1 hs1, boxed_held h.2.2.1 c1 (by omega), boxed_held h.2.2.2 c1 (by omega)⟩)
    t 0 t 0 _ (Nat.sub_zero _) (Nat.zero_le _) hit hT ⟨hJ _ _ _ h0 b3, zi, z2, z1⟩ (by rw [Nat.zero_add]; exact Nat.le_refl _))
  unfold upV at zn
  simp only [Nat.sub_zero, Nat.zero_add] at HU
  unfold upV at HU
  generalize sp i t = m at *
  clear xi xn hsW b1 b3 z1 z2 zi hJ hY h0
  refine callsIn_of_wp Try.func9 rfl trivial ?_ rfl
  simp only [Try.ntmps9, List.size_toArray, List.length_cons, List.length_nil, Nat.reduceAdd, Nat.reduceSub, Array.replicate_succ, Array.replicate_zero, List.push_toArray, List.append_toArray, List.nil_append, List.cons_append]
  gi_wp2_with fail
  refine ⟨trivial, (callsIn_wide.2 (callsIn_wide.1 HU.out)).mono ?_⟩
  rintro e W1 ⟨rfl, hJ1, _⟩
  have HJ1 := Lib.hid hJ1
  clear hJ1
  gi_wp2
  go_end0
  exact ⟨⟨_, rfl⟩, HJ1.out⟩
end Go.Proofs.Ytdcpggfaokhbkaa
