/- What Steps answers: how many nodes there are above the i-th of n leaves; -1, if there is no such leaf, or n is above 4096. Conditions: none. -/
import Derived.Test.YtdcpggfaokhbkaaSteps
namespace Go.Proofs.Ytdcpggfaokhbkaa
open Go.ChangeShapes Go.WideShapes Go.ChangeAt Go.RowKit
attribute [local go_sem] Oper.semAt_some

set_option maxHeartbeats 1000000 in
set_option maxRecDepth 100000 in
theorem place_any (i n : Int) (w : World) : Calls Try.prog 7 #[.int .i64 i, .int .i64 n] w fun e w' => e = .returned (.bool (decide (0 ≤ i ∧ i < n))) ∧ w' = w := by
  by_cases h0 : 0 ≤ i
  · have hd : decide (0 ≤ i ∧ i < n) = decide (i < n) := by simp [h0]
    rw [hd]
    clear hd
    go_enter Try.func7, Try.ntmps7
    go_wp2
    go_ret
    exact ⟨rfl, rfl⟩
  · have hd : decide (0 ≤ i ∧ i < n) = false := decide_eq_false (by omega)
    rw [hd]
    clear hd
    go_enter Try.func7, Try.ntmps7
    go_wp2
    go_ret
    exact ⟨rfl, rfl⟩

set_option maxHeartbeats 1000000 in
set_option maxRecDepth 100000 in
theorem steps_no (i n : Int) (h : ¬ (0 ≤ i ∧ i < n) ∨ 4096 < n) (w : World) : Calls Try.prog 5 #[.int .i64 i, .int .i64 n] w fun e w' => e = .returned (.int .i64 (-1)) ∧ w' = w := by
  have HP := Lib.hid (place_any i n)
  by_cases hp : 0 ≤ i ∧ i < n
  · have hd : decide (0 ≤ i ∧ i < n) = true := decide_eq_true hp
    rw [hd] at HP
    clear hd
    go_enter Try.func5, Try.ntmps5
    go_wp2_with (go_at_call 7; refine (HP.out _).mono ?_; rintro e w2 ⟨rfl, hw⟩; obtain rfl := hw.symm; clear hw)
    go_ret
    exact ⟨rfl, rfl⟩
  · have hd : decide (0 ≤ i ∧ i < n) = false := decide_eq_false hp
    rw [hd] at HP
    clear hd
    go_enter Try.func5, Try.ntmps5
    go_wp2_with (go_at_call 7; refine (HP.out _).mono ?_; rintro e w2 ⟨rfl, hw⟩; obtain rfl := hw.symm; clear hw)
    go_ret
    exact ⟨rfl, rfl⟩

theorem below_loose {B : Nat} {w X Y : World} (h : Below w.heap.size w X) (hl : Loose B X Y) (hB : w.heap.size ≤ B) : Below w.heap.size w Y := by
  refine ⟨hl.os.trans h.os, hl.tape.trans h.tape, hl.output.trans h.output, Nat.le_trans h.size hl.size, fun k hk => ?_⟩
  have hlt : k < X.heap.size := Nat.lt_of_lt_of_le hk h.size
  have hX := h.block k hk
  rw [← hX]
  exact (hl.same k _ (Array.getElem?_eq_getElem hlt) (.inl (by omega))).trans (Array.getElem?_eq_getElem hlt).symm
theorem keepsFrom_set (B s : Nat) (W : World) (v : Value) (hs : s < B) : KeepsFrom B W (W.setCell ⟨s, 0, none⟩ v) :=
  ⟨(KeepsOthers.setCell W _ v).size, fun k _ hB hk _ => (Below.heap_setCell _ _ _ k (by show k ≠ s; omega)).trans hk⟩

set_option maxRecDepth 100000 in
set_option maxHeartbeats 4000000 in
theorem steps_yes (i n : Nat) (hit : i < n) (hT : n ≤ 4096) (w : World) : Calls Try.prog 5 #[.int .i64 (i : Int), .int .i64 (n : Int)] w fun e w' => e = .returned (.int .i64 ((sp i n : Nat) : Int)) ∧ Below w.heap.size w w' := by
  have hd : decide (0 ≤ (i : Int) ∧ (i : Int) < (n : Int)) = true := decide_eq_true (by omega)
  have HP := Lib.hid (place_any (i : Int) (n : Int))
  rw [hd] at HP
  have hspk : sp i n ≤ 12 := sp_le 12 i n (by omega)
  have b1 : Below w.heap.size w (w.alloc (.cells #[.int .i64 0] 3)) := alloc_below _ _
  have b3 : Below w.heap.size w (((w.alloc (.cells #[.int .i64 0] 3)).alloc (.cells #[.int .i64 (i : Int)] 3)).alloc (.cells #[.int .i64 (n : Int)] 3)) := (b1.alloc (by simp) _).alloc (by simp; omega) _
  have z0 : Boxed (((w.alloc (.cells #[.int .i64 0] 3)).alloc (.cells #[.int .i64 (i : Int)] 3)).alloc (.cells #[.int .i64 (n : Int)] 3)) w.heap.size 3 (.int .i64 ((0 : Nat) : Int)) := ((Boxed.new w 3 _).alloc _).alloc _
  have z1 : Boxed (((w.alloc (.cells #[.int .i64 0] 3)).alloc (.cells #[.int .i64 (i : Int)] 3)).alloc (.cells #[.int .i64 (n : Int)] 3)) (w.heap.size + 1) 3 (.int .i64 (i : Int)) := by
    have := (Boxed.new (w.alloc (.cells #[.int .i64 0] 3)) 3 (.int .i64 (i : Int))).alloc (.cells #[.int .i64 (n : Int)] 3)
    simpa using this
  have z2 : Boxed (((w.alloc (.cells #[.int .i64 0] 3)).alloc (.cells #[.int .i64 (i : Int)] 3)).alloc (.cells #[.int .i64 (n : Int)] 3)) (w.heap.size + 1 + 1) 3 (.int .i64 (n : Int)) := by
    have := Boxed.new ((w.alloc (.cells #[.int .i64 0] 3)).alloc (.cells #[.int .i64 (i : Int)] 3)) 3 (.int .i64 (n : Int))
    simpa using this
  have hsz : (((w.alloc (.cells #[.int .i64 0] 3)).alloc (.cells #[.int .i64 (i : Int)] 3)).alloc (.cells #[.int .i64 (n : Int)] 3)).heap.size = w.heap.size + 3 := by simp
  have hseq := above1_in 7 (by omega) i n (w.heap.size + 1) (w.heap.size + 1 + 1) w.heap.size _ z1 z2 (by omega) (by omega) hit hT
  have HSEQ := Lib.hid hseq
  have HZ := Lib.hid (And.intro b3 (And.intro z0 hsz))
  generalize sp i n = m at *
  clear hd b1 b3 z0 z1 z2 hsz hseq
  refine (callsIn_wide (n := 8)).1 ?_
  refine callsIn_of_wp_marks Try.func5 rfl trivial ?_ rfl
  simp only [Try.ntmps5, List.size_toArray, List.length_cons, List.length_nil, Nat.reduceAdd, Nat.reduceSub, Array.replicate_succ, Array.replicate_zero, List.push_toArray, List.append_toArray, List.nil_append, List.cons_append]
  gi_wp2_with fail
  refine ⟨trivial, (callsIn_wide.2 (HP.out _)).mono ?_⟩
  rintro e W1 ⟨rfl, hw⟩
  obtain rfl := hw.symm
  clear hw
  gi_wp2_with fail
  refine ⟨trivial, (callsIn_wide.2 (callsIn_wide.1 (above_in 7 _ _ _))).mono ?_⟩
  rintro e W1 ⟨rfl, hw⟩
  simp only [World.size_alloc] at hw ⊢
  obtain rfl := hw.symm
  clear hw
  gi_wp2_with fail
  generalize hV : ((w.alloc (.cells #[.int .i64 0] 3)).alloc (.cells #[.int .i64 (i : Int)] 3)).alloc (.cells #[.int .i64 (n : Int)] 3) = V at *
  clear hV
  have hVs : V.heap.size = w.heap.size + 3 := HZ.out.2.2
  refine wpIn_range_count rfl (by omega) (gf := 9) (lb := #[.pointer (some ⟨w.heap.size + 1, 0, none⟩), .pointer (some ⟨w.heap.size + 1 + 1, 0, none⟩)]) rfl trivial (enters_of Try.func9 (by kernel_rfl) rfl) HSEQ.out rfl
    (fun k W => Boxed W w.heap.size 3 (.int .i64 (k : Int)) ∧ Below w.heap.size w W) (fun k X Y hX hL => ⟨hL.same _ _ hX.1 (.inr rfl), below_loose hX.2 hL (by omega)⟩) ⟨HZ.out.2.1, HZ.out.1⟩
    (fun x y => { tmps := #[.int .i64 (i : Int), .int .i64 (n : Int), undef, undef, .int .i64 0, .pointer (some ⟨w.heap.size, 0, none⟩), .int .i64 (i : Int), .int .i64 (n : Int), .bool true, .bool false, .bool false, .int .i64 (n : Int), .bool (decide ((4096 : Int) < (n : Int))), .bool (decide ((4096 : Int) < (n : Int))), .int .i64 (i : Int), .int .i64 (n : Int),
      .func (.func 9) #[] #[.pointer (some ⟨w.heap.size + 1, 0, none⟩), .pointer (some ⟨w.heap.size + 1 + 1, 0, none⟩)], .int .i64 x, .int .i64 y, undef, undef, undef], defers := [] }) ?assign ?body ?done
  case assign =>
    intro l x y W K hK
    gi_wp2
    refine Eq.mpr (congrArg (fun t => K { tmps := t, defers := [] } W) ?_) hK
    have hz : (#[(17 : Nat), 18].zip #[Value.int .i64 x, Value.int .i64 y]) = #[(17, Value.int .i64 x), (18, Value.int .i64 y)] := by simp
    rw [hz]
    rfl
  case body =>
    rintro l k x y W ⟨hbx, hB⟩ hk
    have hc := hbx.cell
    have hf := hbx.frozen
    have HBX := Lib.hid hbx
    have HB := Lib.hid hB
    clear hbx hB HSEQ HZ HP
    gi_wp2
    refine ⟨keepsFrom_set _ _ _ _ (by omega), Cells.set _ _ _, ?_, HB.out.setCell (p := ⟨w.heap.size, 0, none⟩) (Nat.le_refl _) _⟩
    exact HBX.out.set _
  case done =>
    rintro D W' hD ⟨hbx, hB⟩ hKd
    have hlast := below_loose hB (Loose.put (.deferred none) hD hKd rfl) (by omega)
    have hc := hbx.cell
    have HL := Lib.hid hlast
    have HKD := Lib.hid hKd
    clear hlast hB hKd HSEQ HZ HP
    gi_wp2
    refine ⟨by simp, .inl ⟨_, _, rfl, run_takeDeferred HKD.out, ?_⟩⟩
    exact ⟨_, results_tmp rfl _ _ _, ⟨rfl, HL.out⟩⟩
end Go.Proofs.Ytdcpggfaokhbkaa
