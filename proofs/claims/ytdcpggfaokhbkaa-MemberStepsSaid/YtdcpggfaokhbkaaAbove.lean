/- The function that the nodes above a leaf are gone through by: it calls the loop's body as often as there are such nodes. Condition: 0 to n less 1, n 4096 at most. -/
import Derived.Test.YtdcpggfaokhbkaaBase
import Derived.Test.YtdcpggfaokhbkaaCount
import Derived.RegionIn
import Derived.BigRegionIn
import Derived.RangeFuncCalls
import Derived.OwnWalkIn
import Derived.TacticsInMore
import Derived.LoopNIn
import Derived.LoopIn
import Derived.RangeFuncLeaves
import Derived.Laws.EntriesVeiled
namespace Go.Proofs.Ytdcpggfaokhbkaa
open Go.ChangeShapes Go.WideShapes Go.ChangeAt Go.RowKit
attribute [local go_sem] Oper.semAt_some

theorem above_in (n : Nat) (i m : Int) (w : World) :
    CallsIn Fence.wide n Try.prog 8 #[.int .i64 i, .int .i64 m] w fun e w' => e = .returned (.func (.func 9) #[] #[.pointer (some ⟨w.heap.size, 0, none⟩), .pointer (some ⟨w.heap.size + 1, 0, none⟩)]) ∧
      w' = (w.alloc (.cells #[.int .i64 i] 3)).alloc (.cells #[.int .i64 m] 3) := by
  refine callsIn_of_wp Try.func8 rfl trivial ?_ rfl
  simp only [Try.ntmps8, List.size_toArray, List.length_cons, List.length_nil, Nat.reduceAdd, Nat.reduceSub, Array.replicate_succ, Array.replicate_zero, List.push_toArray, List.append_toArray, List.nil_append, List.cons_append]
  gi_wp2
  go_ret
  exact ⟨rfl, rfl⟩

/-- The function that goes into itself, as it lies in memory. -/
def upV (bi bu bz : Nat) : Value := .func (.func 10) #[] #[.pointer (some ⟨bi, 0, none⟩), .pointer (some ⟨bu, 0, none⟩), .pointer (some ⟨bz, 0, none⟩)]

set_option maxRecDepth 100000 in
set_option maxHeartbeats 4000000 in
theorem up_in (n : Nat) (hn : 1 ≤ n) (ll m : Nat) (i : Nat) (bi bu bz : Nat) (J : Nat → World → Prop)
    (HC : ∀ k X, J k X → X.cell? ⟨bi, 0, none⟩ = some (.int .i64 (i : Int)) ∧ X.cell? ⟨bu, 0, none⟩ = some (upV bi bu bz) ∧ X.cell? ⟨bz, 0, none⟩ = some (.func (.yield ll) #[] #[]))
    (HY : ∀ k (x y : Int) X, J k X → k < m → YieldAt Fence.wide (n - 1) Try.prog ll #[.int .i64 x, .int .i64 y] X fun e W' => e = .returned (.bool true) ∧ J (k + 1) W') :
    ∀ (d f t k : Nat) (W : World), t - f = d → f ≤ i → i < t → t ≤ 4096 → J k W → k + sp (i - f) (t - f) ≤ m →
      CallsIn Fence.wide n Try.prog 10 #[.int .i64 (f : Int), .int .i64 (t : Int), .pointer (some ⟨bi, 0, none⟩), .pointer (some ⟨bu, 0, none⟩), .pointer (some ⟨bz, 0, none⟩)] W fun e W' =>
        e = .returned (.bool true) ∧ J (k + sp (i - f) (t - f)) W' := by
  intro d
  induction d using Nat.strongRecOn with
  | _ d ih =>
    intro f t k W hd hf ht hT hJ hm
    have HH := Lib.hid (fun W => half_any ((t : Int) - (f : Int)) (by omega) W)
    obtain ⟨ci, cu, cz⟩ := HC k W hJ
    unfold upV at cu
    by_cases h2 : t - f < 2
    · have e0 : halfI ((t : Int) - (f : Int)) = 0 := if_pos (by omega)
      rw [e0] at HH
      have es : sp (i - f) (t - f) = 0 := sp_few _ _ h2
      rw [es] at hm ⊢
      have HJ := Lib.hid hJ
      clear hJ ih HC HY e0 es
      refine callsIn_of_wp Try.func10 rfl trivial ?_ rfl
      simp only [Try.ntmps10, List.size_toArray, List.length_cons, List.length_nil, Nat.reduceAdd, Nat.reduceSub, Array.replicate_succ, Array.replicate_zero, List.push_toArray, List.append_toArray, List.nil_append, List.cons_append]
      gi_wp2_with fail
      refine ⟨trivial, (callsIn_wide.2 (HH.out W)).mono ?_⟩
      rintro e W1 ⟨rfl, hw⟩
      obtain rfl := hw.symm
      clear hw
      gi_wp2
      go_ret
      exact ⟨rfl, HJ.out⟩
    · have e0 : halfI ((t : Int) - (f : Int)) = ((hi (t - f - 1) : Nat) : Int) := by unfold halfI; rw [if_neg (by omega), show (((t : Int) - (f : Int)).toNat - 1) = t - f - 1 by omega]
      rw [e0] at HH
      obtain ⟨k1, k2⟩ := half_ok (t - f) (by omega)
      have k3 := hi_pos (t - f - 1)
      by_cases hlt : i < f + hi (t - f - 1)
      · have es : sp (i - f) (t - f) = sp (i - f) (hi (t - f - 1)) + 1 := sp_left _ _ (by omega) (by omega)
        have HI := Lib.hid (ih (hi (t - f - 1)) (by omega) f (f + hi (t - f - 1)) k W (by omega) hf hlt (by omega) hJ (by rw [show f + hi (t - f - 1) - f = hi (t - f - 1) by omega]; omega))
        rw [show f + hi (t - f - 1) - f = hi (t - f - 1) by omega] at HI
        rw [es] at hm ⊢
        generalize sp (i - f) (hi (t - f - 1)) = q at *
        generalize hi (t - f - 1) = h at *
        have hcast : ((f + h : Nat) : Int) = (f : Int) + (h : Int) := by omega
        rw [hcast] at HI
        have HCx := Lib.hid (HC (k + q))
        have HYx := Lib.hid (fun X hX => HY (k + q) ((f : Int) + (h : Int)) (t : Int) X hX (by omega))
        clear hJ ih HC HY e0 es hcast
        refine callsIn_of_wp Try.func10 rfl trivial ?_ rfl
        simp only [Try.ntmps10, List.size_toArray, List.length_cons, List.length_nil, Nat.reduceAdd, Nat.reduceSub, Array.replicate_succ, Array.replicate_zero, List.push_toArray, List.append_toArray, List.nil_append, List.cons_append]
        gi_wp2_with fail
        refine ⟨trivial, (callsIn_wide.2 (HH.out W)).mono ?_⟩
        rintro e W1 ⟨rfl, hw⟩
        obtain rfl := hw.symm
        clear hw
        gi_wp2_with fail
        refine ⟨trivial, (callsIn_wide.2 (callsIn_wide.1 HI.out)).mono ?_⟩
        rintro e W1 ⟨rfl, hJ1⟩
        obtain ⟨_, _, cz1⟩ := HCx.out W1 hJ1
        obtain ⟨fn0, tmps0, assign0, body0, hy0, hr0⟩ := HYx.out W1 hJ1
        clear hJ1
        gi_wp2
        refine hr0.mono ?_
        rintro e W2 ⟨rfl, hJ2⟩
        have HJ2 := Lib.hid hJ2
        clear hJ2 hr0 hy0
        gi_wp2
        go_ret
        exact ⟨rfl, HJ2.out⟩
      · have es : sp (i - f) (t - f) = sp (i - f - hi (t - f - 1)) (t - f - hi (t - f - 1)) + 1 := sp_right _ _ (by omega) (by omega)
        have HI := Lib.hid (ih (t - (f + hi (t - f - 1))) (by omega) (f + hi (t - f - 1)) t k W rfl (by omega) ht hT hJ (by rw [show i - (f + hi (t - f - 1)) = i - f - hi (t - f - 1) by omega, show t - (f + hi (t - f - 1)) = t - f - hi (t - f - 1) by omega]; omega))
        rw [show i - (f + hi (t - f - 1)) = i - f - hi (t - f - 1) by omega, show t - (f + hi (t - f - 1)) = t - f - hi (t - f - 1) by omega] at HI
        rw [es] at hm ⊢
        generalize sp (i - f - hi (t - f - 1)) (t - f - hi (t - f - 1)) = q at *
        generalize hi (t - f - 1) = h at *
        have hcast : ((f + h : Nat) : Int) = (f : Int) + (h : Int) := by omega
        rw [hcast] at HI
        have HCx := Lib.hid (HC (k + q))
        have HYx := Lib.hid (fun X hX => HY (k + q) (f : Int) ((f : Int) + (h : Int)) X hX (by omega))
        clear hJ ih HC HY e0 es hcast
        refine callsIn_of_wp Try.func10 rfl trivial ?_ rfl
        simp only [Try.ntmps10, List.size_toArray, List.length_cons, List.length_nil, Nat.reduceAdd, Nat.reduceSub, Array.replicate_succ, Array.replicate_zero, List.push_toArray, List.append_toArray, List.nil_append, List.cons_append]
        gi_wp2_with fail
        refine ⟨trivial, (callsIn_wide.2 (HH.out W)).mono ?_⟩
        rintro e W1 ⟨rfl, hw⟩
        obtain rfl := hw.symm
        clear hw
        gi_wp2_with fail
        refine ⟨trivial, (callsIn_wide.2 (callsIn_wide.1 HI.out)).mono ?_⟩
        rintro e W1 ⟨rfl, hJ1⟩
        obtain ⟨_, _, cz1⟩ := HCx.out W1 hJ1
        obtain ⟨fn0, tmps0, assign0, body0, hy0, hr0⟩ := HYx.out W1 hJ1
        clear hJ1
        gi_wp2
        refine hr0.mono ?_
        rintro e W2 ⟨rfl, hJ2⟩
        have HJ2 := Lib.hid hJ2
        clear hJ2 hr0 hy0
        gi_wp2
        go_ret
        exact ⟨rfl, HJ2.out⟩
end Go.Proofs.Ytdcpggfaokhbkaa
