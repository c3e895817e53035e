/- What is refused, the largest power of two at a place, and the function that a cover is gone through by: it calls the loop's body once for each size, in order. Condition: 0 to n, n 4096 at most. -/
import Derived.Test.YtdmaipebckbmpaaBase
import Derived.Test.YtdmaipebckbmpaaCov
import Derived.Test.YtdmaipebckbmpaaRange
import Derived.Lib.MinMax
import Derived.RegionIn
import Derived.BigRegionIn
import Derived.RangeFuncCalls
import Derived.OwnWalkIn
import Derived.TacticsInMore
import Derived.LoopNIn
import Derived.LoopIn
import Derived.RangeFuncLeaves
import Derived.Laws.EntriesVeiled
namespace Go.Proofs.Ytdmaipebckbmpaa
open Go.ChangeShapes Go.WideShapes Go.ChangeAt Go.RowKit
attribute [local go_sem] Oper.semAt_some

set_option maxHeartbeats 1000000 in
set_option maxRecDepth 100000 in
theorem refusal_no (m n : Int) (h : m < 0 ∨ n < m ∨ 4096 < n) (w : World) : Calls Try.prog 7 #[.int .i64 m, .int .i64 n] w fun e w' => e = .returned (.int .i64 1) ∧ w' = w := by
  by_cases h1 : m < 0
  · go_enter Try.func7, Try.ntmps7
    go_wp2
    go_ret
    exact ⟨rfl, rfl⟩
  · by_cases h2 : n < m
    · go_enter Try.func7, Try.ntmps7
      go_wp2
      go_ret
      exact ⟨rfl, rfl⟩
    · have h3 : 4096 < n := by omega
      go_enter Try.func7, Try.ntmps7
      go_wp2
      go_ret
      exact ⟨rfl, rfl⟩

set_option maxHeartbeats 1000000 in
set_option maxRecDepth 100000 in
theorem refusal_yes (m n : Int) (h1 : 0 ≤ m) (h2 : m ≤ n) (h3 : n ≤ 4096) (w : World) : Calls Try.prog 7 #[.int .i64 m, .int .i64 n] w fun e w' => e = .returned (.int .i64 0) ∧ w' = w := by
  go_enter Try.func7, Try.ntmps7
  go_wp2
  go_ret
  exact ⟨rfl, rfl⟩

set_option maxHeartbeats 1000000 in
set_option maxRecDepth 100000 in
theorem largest_any (a l : Nat) (ha : a < 4096) (h1 : 1 ≤ l) (hl : l ≤ 4096) (w : World) :
    Calls Try.prog 10 #[.int .i64 (a : Int), .int .i64 (l : Int)] w fun e w' => e = .returned (.int .i64 ((lg a l : Nat) : Int)) ∧ w' = w := by
  have HH : Hid (∀ w, Calls Try.prog 11 #[.int .i64 ((l : Int) + 1)] w fun e w' => e = .returned (.int .i64 ((hi l : Nat) : Int)) ∧ w' = w) := Lib.hid fun w => by
    have h := half_any ((l : Int) + 1) (by omega) w
    have e : halfI ((l : Int) + 1) = ((hi l : Nat) : Int) := by unfold halfI; rw [if_neg (by omega), show (((l : Int) + 1).toNat - 1) = l by omega]
    rwa [e] at h
  by_cases h0 : a = 0
  · subst h0
    have e : lg 0 l = hi l := if_pos rfl
    rw [e]
    clear e
    generalize hi l = r at *
    go_enter Try.func10, Try.ntmps10
    go_wp2_with (go_at_call 11; refine (HH.out _).mono ?_; rintro e w1 ⟨rfl, hw⟩; obtain rfl := hw.symm; clear hw)
    go_ret
    exact ⟨rfl, rfl⟩
  · have e : lg a l = min (2 ^ tz a) (hi l) := if_neg h0
    have HL : Hid (bits .and .i64 (a : Int) (-(a : Int)) = ((2 ^ tz a : Nat) : Int)) := Lib.hid (low_is a (by omega) ha)
    have hr : hi l ≤ l := hi_le l (by omega)
    have hz : 2 ^ tz a ≤ a := Nat.le_of_dvd (by omega) (tz_dvd a)
    rw [e]
    clear e
    generalize hi l = r at *
    generalize 2 ^ tz a = z at *
    have HM : Hid (min (z : Int) (r : Int) = ((min z r : Nat) : Int)) := Lib.hid (by omega)
    go_enter Try.func10, Try.ntmps10
    go_wp2_with (go_at_call 11; refine (HH.out _).mono ?_; rintro e w1 ⟨rfl, hw⟩; obtain rfl := hw.symm; clear hw)
    go_ret
    rw [HL.out, HM.out]
    exact ⟨rfl, rfl⟩

theorem covers_in (n : Nat) (x y : Int) (w : World) :
    CallsIn Fence.wide n Try.prog 8 #[.int .i64 x, .int .i64 y] w fun e w' => e = .returned (.func (.func 9) #[] #[.pointer (some ⟨w.heap.size, 0, none⟩), .pointer (some ⟨w.heap.size + 1, 0, none⟩)]) ∧
      w' = (w.alloc (.cells #[.int .i64 x] 3)).alloc (.cells #[.int .i64 y] 3) := by
  refine callsIn_of_wp Try.func8 rfl trivial ?_ rfl
  simp only [Try.ntmps8, List.size_toArray, List.length_cons, List.length_nil, Nat.reduceAdd, Nat.reduceSub, Array.replicate_succ, Array.replicate_zero, List.push_toArray, List.append_toArray, List.nil_append, List.cons_append]
  gi_wp2
  go_ret
  exact ⟨rfl, rfl⟩

/-- The k-th size. -/
def cz (m n k : Nat) : Nat := (cv m n).getD k 0
theorem cz_get {m n k : Nat} (h : k < (cv m n).length) : (cv m n)[k]? = some (cz m n k) := by
  unfold cz
  rw [List.getD_eq_getElem?_getD, List.getElem?_eq_getElem h]
  rfl

set_option maxRecDepth 100000 in
set_option maxHeartbeats 4000000 in
theorem covers1_in (d : Nat) (hd : 1 ≤ d) (m n bm bn : Nat) (Kp : World → World → Prop) (w : World) (hm : Boxed w bm 3 (.int .i64 (m : Int))) (hn : Boxed w bn 3 (.int .i64 (n : Int))) (hmn : m ≤ n) (hT : n ≤ 4096)
    (hKp : ∀ A B : World, Kp A B → Boxed A bn 3 (.int .i64 (n : Int)) → Boxed B bn 3 (.int .i64 (n : Int))) :
    SeqAt Fence.wide d Try.prog 9 #[.pointer (some ⟨bm, 0, none⟩), .pointer (some ⟨bn, 0, none⟩)] (fun k => ((pl m n k : Nat) : Int)) (fun k => ((cz m n k : Nat) : Int)) Kp (cv m n).length w := by
  intro l J W hW hJ hY h0
  have xm : Boxed W bm 3 (.int .i64 (m : Int)) := (hW.block bm hm.lt).trans hm
  have xn : Boxed W bn 3 (.int .i64 (n : Int)) := (hW.block bn hn.lt).trans hn
  have HP : Hid (∀ k, k < (cv m n).length → pl m n k < n ∧ cz m n k = lg (pl m n k) (n - pl m n k) ∧ pl m n (k + 1) = pl m n k + cz m n k ∧ 0 < cz m n k ∧ pl m n (k + 1) ≤ n) := Lib.hid fun k hk => by
    obtain ⟨h1, h2, h3⟩ := cv_step m n k hmn hk
    have e : cz m n k = lg (pl m n k) (n - pl m n k) := by
      have := cz_get hk
      rw [h2] at this
      exact (Option.some.inj this).symm
    have h4 := (cv_at m n hmn (k + 1) (by omega)).2
    have h5 := lg_pos (pl m n k) (n - pl m n k)
    rw [e]
    exact ⟨h1, rfl, h3, h5, h4⟩
  have HE : Hid (pl m n (cv m n).length = n) := Lib.hid (cv_end m n hmn)
  have HZ : Hid (pl m n 0 = m) := Lib.hid (pl_zero m n)
  have HY := Lib.hid hY
  have HK := Lib.hid hKp
  have H0 := Lib.hid h0
  have HXN := Lib.hid xn
  have cm := xm.cell
  have hLn : (cv m n).length ≤ 25 := cv_len m n hT
  clear hm hn hW hJ hY h0 xm xn hKp
  generalize pl m n = p at *
  generalize cz m n = s at *
  generalize (cv m n).length = L at *
  refine callsIn_of_wp Try.func9 rfl trivial ?_ rfl
  simp only [Try.ntmps9, List.size_toArray, List.length_cons, List.length_nil, Nat.reduceAdd, Nat.reduceSub, Array.replicate_succ, Array.replicate_zero, List.push_toArray, List.append_toArray, List.nil_append, List.cons_append]
  gi_wp2
  clear cm
  gi_loopw [4] (fun i wr => ∃ k : Nat, k ≤ L ∧ i = .int .i64 ((p k : Nat) : Int) ∧ Hid (J k wr) ∧ Hid (Boxed wr bn 3 (.int .i64 (n : Int)))) (fun i _ => n - (intOf i).toNat)
  case atStart => exact ⟨0, Nat.zero_le _, by rw [HZ.out], H0, HXN⟩
  case round =>
    obtain ⟨k, hk, rfl, hj, hb⟩ := hrel
    have cn := hb.out.cell
    by_cases hlt : k < L
    · obtain ⟨q1, q2, q3, q4, q5⟩ := HP.out k hlt
      have hpn : p k ≤ 4095 := by omega
      have hcast : (n : Int) - ((p k : Nat) : Int) = ((n - p k : Nat) : Int) := by omega
      have HG := Lib.hid (fun w => largest_any (p k) (n - p k) (by omega) (by omega) (by omega) w)
      rw [← hcast, ← q2] at HG
      obtain ⟨fn0, tmps0, assign0, body0, hy0, hr0⟩ := HY.out k wr hj.out hlt
      rw [q3] at q5
      have HQ := Lib.hid q3
      clear q2 q3 hcast
      have hlt2 : ((p k : Nat) : Int) < (n : Int) := by omega
      generalize s k = z at *
      generalize p k = y at *
      gi_wp2_with fail
      refine ⟨trivial, (callsIn_wide.2 (HG.out _)).mono ?_⟩
      rintro e W1 ⟨rfl, hw⟩
      obtain rfl := hw.symm
      clear hw
      gi_wp2
      refine hr0.mono ?_
      rintro e W1 ⟨rfl, J1, q0⟩
      have HJ1 := Lib.hid J1
      have HB1 := Lib.hid (HK.out _ _ q0 hb.out)
      clear hr0 hy0 q0 J1 cn
      gi_wp2
      go_roundw
      case rel => exact ⟨k + 1, by omega, by rw [HQ.out]; go_num, HJ1, HB1⟩
      case measure => simp [intOf]; omega
    · obtain rfl : k = L := by omega
      rw [HE.out]
      have HJ2 := hj
      gi_wp2
      go_end0
      exact ⟨⟨_, rfl⟩, HJ2.out⟩
end Go.Proofs.Ytdmaipebckbmpaa
