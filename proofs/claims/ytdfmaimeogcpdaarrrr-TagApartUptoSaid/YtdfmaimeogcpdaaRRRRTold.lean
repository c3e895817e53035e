/- The function that tag.Parts ranges over goes through the parts of a text, each with what stands behind it, as many as are told, and ends early where bytes are missing. Condition: the text is no longer than memory. -/
import Derived.Test.YtdfmaimeogcpdaaRRRRText
import Derived.Test.YtdfmaimeogcpdaaRRRRRange
namespace Go.Proofs.YtdfmaimeogcpdaaRRRR
open Go.ChangeShapes Go.WideShapes Go.ChangeAt Go.RowKit Go.Shelf
attribute [local go_sem] Oper.semAt_some

/-- A part, and what stands behind it. -/
abbrev Told := ByteArray × ByteArray
/-- What is left of s when these have come. -/
def left (s : ByteArray) : List Told → ByteArray
  | [] => s
  | x :: l => left x.2 l
theorem left_snoc (s : ByteArray) (l : List Told) (x : Told) : left s (l ++ [x]) = x.2 := by
  induction l generalizing s with
  | nil => rfl
  | cons y l ih => exact ih y.2
def heads (l : List Told) : List (List Int) := l.map fun x => nums x.1
theorem heads_snoc (l : List Told) (x : Told) : heads (l ++ [x]) = heads l ++ [nums x.1] := by simp [heads]
theorem heads_length (l : List Told) : (heads l).length = l.length := by simp [heads]
/-- All have come: just what is read of the text. -/
def AllTold (m : Nat) (s : ByteArray) (xs : List Told) : Prop := heads xs = (parse m (nums s)).1 ∧ nums (left s xs) = (parse m (nums s)).2
/-- The first of them have come. -/
def SoFar (m k : Nat) (s : ByteArray) (pre : List Told) : Prop :=
  pre.length = k ∧ (left s pre).size ≤ s.size ∧ parse m (nums s) = (heads pre ++ (parse (m - k) (nums (left s pre))).1, (parse (m - k) (nums (left s pre))).2)
theorem SoFar.none (m k : Nat) (s : ByteArray) (pre : List Told) (h : SoFar m k s pre) (hk : k < m) (hf : first (nums (left s pre)) = none) : AllTold m s pre := by
  have e : parse (m - k) (nums (left s pre)) = ([], nums (left s pre)) := by
    rw [show m - k = (m - k - 1) + 1 by omega, parse, hf]
  have := h.2.2
  rw [e] at this
  refine ⟨?_, ?_⟩ <;> rw [this]
  simp
theorem SoFar.all (m : Nat) (s : ByteArray) (pre : List Told) (h : SoFar m m s pre) : AllTold m s pre := by
  have := h.2.2
  rw [Nat.sub_self, parse] at this
  refine ⟨?_, ?_⟩ <;> rw [this]
  simp
theorem SoFar.some (m k : Nat) (s : ByteArray) (pre : List Told) (h : SoFar m k s pre) (hk : k < m) (p r : List Int) (hf : first (nums (left s pre)) = some (p, r)) : SoFar m (k + 1) s (pre ++ [(strOfNums p, strOfNums r)]) := by
  have hl := first_some (nums_bytes _) hf
  have hb := nums_bytes (left s pre)
  have hp : Bytes p := fun x hx => hb x (by rw [hl]; exact List.mem_append_left _ (List.mem_append_right _ hx))
  have hr : Bytes r := fun x hx => hb x (by rw [hl]; exact List.mem_append_right _ hx)
  have hlt := first_lt hf
  rw [nums_length] at hlt
  refine ⟨by simp [h.1], ?_, ?_⟩
  · rw [left_snoc, strOfNums_size]
    have := h.2.1
    omega
  · have e : parse (m - k) (nums (left s pre)) = (p :: (parse (m - (k + 1)) r).1, (parse (m - (k + 1)) r).2) := by
      rw [show m - k = (m - (k + 1)) + 1 by omega, parse, hf]
    rw [h.2.2, e, left_snoc, heads_snoc, nums_strOfNums r hr, nums_strOfNums p hp]
    simp

/-- What a round leaves alone: the function's variable. -/
def Held (Bt : Nat) (W W' : World) : Prop := W'.heap[Bt]? = W.heap[Bt]?

set_option maxRecDepth 100000 in
set_option maxHeartbeats 4000000 in
theorem told1_in (n : Nat) (hn : 1 ≤ n) (Bt Bm : Nat) (m : Nat) (s : ByteArray) (hm : m ≤ 65536) (hs : s.size ≤ 281474976710656) (w : World) (hBt : Boxed w Bt 9 (.string s)) (hBm : Boxed w Bm 3 (.int .i64 m)) :
    SeqState Fence.wide n Try.prog 18 #[.pointer (some ⟨Bm, 0, none⟩), .pointer (some ⟨Bt, 0, none⟩)] (fun x : Told => #[Value.string x.1, Value.string x.2]) Bt (Held Bt) (AllTold m s) m w := by
  intro l J W hW hJ hY h0
  have hBt' : Boxed W Bt 9 (.string s) := (hW.block Bt hBt.lt).trans hBt
  have hBm' : Boxed W Bm 3 (.int .i64 m) := (hW.block Bm hBm.lt).trans hBm
  have hcm := hBm'.cell
  refine callsIn_of_wp Try.func18 rfl trivial ?_ rfl
  simp only [Try.ntmps18, List.size_toArray, List.length_cons, List.length_nil, Nat.reduceAdd, Nat.reduceSub, Array.replicate_succ, Array.replicate_zero, List.push_toArray, List.append_toArray, List.nil_append, List.cons_append]
  gi_wp2
  gi_loopw [8] (fun i wr => ∃ (k : Nat) (pre : List Told), k ≤ m ∧ i = .int .i64 k ∧ SoFar m k s pre ∧ Boxed wr Bt 9 (.string (left s pre)) ∧ J pre wr)
    (fun i _ => m - (intOf i).toNat)
  case atStart => exact ⟨0, [], Nat.zero_le _, rfl, ⟨rfl, Nat.le_refl _, by simp [heads, left]⟩, hBt', h0⟩
  case round =>
    obtain ⟨k, pre, hk, rfl, hso, hbx, hJs⟩ := hrel
    by_cases hlt : k < m
    · have hcx := hbx.cell
      have hsz : (left s pre).size ≤ 281474976710656 := Nat.le_trans hso.2.1 hs
      gi_wp2_with fail
      refine ⟨trivial, (callsIn_wide.2 (first_any (left s pre) wr hsz)).mono ?_⟩
      rintro e w1 ⟨rfl, hb1⟩
      have hJ1 := hJ _ _ _ hJs (Mild.of_below hb1)
      have hb2 : Boxed w1 Bt 9 (.string (left s pre)) := boxed_below hbx hb1
      unfold firstAns
      cases hf : first (nums (left s pre)) with
      | none =>
        dsimp only
        gi_wp2
        refine ⟨fun _ h => (by cases h), ?_⟩
        gi_wp2
        refine bodyPost_ret (results_none rfl _ _ _) rfl ?_
        exact ⟨⟨_, rfl⟩, pre, hso.none _ _ _ _ hlt hf, hJ1⟩
      | some pr =>
        obtain ⟨p, r⟩ := pr
        dsimp only
        obtain ⟨fn, tmps, assign, body, hy, hR⟩ := hY pre (strOfNums p, strOfNums r) w1 hJ1 (by rw [hso.1]; exact hlt)
        dsimp only at hy
        have HSO := Lib.hid (hso.some _ _ _ _ hlt p r hf)
        clear hY hso hf hcx hJs hbx
        gi_wp2
        refine hR.mono ?_
        rintro e W3 ⟨rfl, hJ3, hk3⟩
        have hb3 : Boxed W3 Bt 9 (.string (left s pre)) := Eq.trans hk3 hb2
        have hc3 := hb3.cell
        have hf3 := hb3.frozen
        gi_wp2
        go_roundw
        case rel =>
          refine ⟨k + 1, pre ++ [(strOfNums p, strOfNums r)], by omega, by simp, HSO.out, ?_, hJ _ _ _ hJ3 (Mild.setCell Bt W3 _)⟩
          rw [left_snoc]
          exact hb3.set _
        case measure => simp [intOf]; omega
    · obtain rfl : k = m := by omega
      gi_wp2
      go_end0
      exact ⟨⟨_, rfl⟩, pre, hso.all, hJs⟩

theorem told_in (n : Nat) (s : ByteArray) (m : Nat) (w : World) :
    CallsIn Fence.wide n Try.prog 16 #[.string s, .int .i64 m] w fun e w' => e = .returned (.func (.func 18) #[] #[.pointer (some ⟨w.heap.size + 1, 0, none⟩), .pointer (some ⟨w.heap.size, 0, none⟩)]) ∧
      w' = (w.alloc (.cells #[.string s] 9)).alloc (.cells #[.int .i64 m] 3) := by
  refine callsIn_of_wp Try.func16 rfl trivial ?_ rfl
  simp only [Try.ntmps16, List.size_toArray, List.length_cons, List.length_nil, Nat.reduceAdd, Nat.reduceSub, Array.replicate_succ, Array.replicate_zero, List.push_toArray, List.append_toArray, List.nil_append, List.cons_append]
  gi_wp2
  go_ret
  exact ⟨rfl, rfl⟩
end Go.Proofs.YtdfmaimeogcpdaaRRRR
