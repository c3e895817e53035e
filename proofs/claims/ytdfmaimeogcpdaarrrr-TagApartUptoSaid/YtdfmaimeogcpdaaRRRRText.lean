/- Text of a kind and parts is the kind's byte, the number of parts in four bytes, and each part with its length in eight bytes ahead; or it is refused. All memory that was there stays. Condition: a part is no longer than 1048576 bytes where it is not refused. -/
import Derived.Test.YtdfmaimeogcpdaaRRRRLay
import Derived.RangeFuncNested
import Derived.RangeFuncBound
import Derived.RangeFuncCalls
import Derived.RangeFuncLeaves
import Derived.Shelf.Abstract
import Derived.Shelf.RegionOpen
import Derived.WalkKit
import Derived.OwnWalkIn
import Derived.TacticsInMore
import Derived.LoopNIn
import Derived.LoopIn
import Derived.Maps.AppendAt
namespace Go.Proofs.YtdfmaimeogcpdaaRRRR
open Go.ChangeShapes Go.WideShapes Go.ChangeAt Go.RowKit Go.Shelf
attribute [local go_sem] Oper.semAt_some

/-- A text that is no longer than a mebibyte. -/
abbrev Short := { s : ByteArray // s.size ≤ 1048576 }
def raw (l : List Short) : List ByteArray := l.map Subtype.val
theorem raw_append (a b : List Short) : raw (a ++ b) = raw a ++ raw b := by simp [raw]
theorem raw_length (a : List Short) : (raw a).length = a.length := by simp [raw]

theorem take_step (ss : List Short) (k : Nat) (h : k < ss.length) : ss.take (k + 1) = ss.take k ++ [ss[k]] := List.take_succ_eq_append_getElem h
theorem raw_getD (ss : List Short) (k : Nat) (h : k < ss.length) : (raw ss).getD k ByteArray.empty = (ss[k]).1 := by
  simp [raw, List.getD, List.getElem?_eq_getElem h]

set_option maxRecDepth 100000 in
set_option maxHeartbeats 2000000 in
/-- The closure of slices.Values: for every loop body that keeps what lay below n₀. -/
theorem values1_in (m : Nat) (hm : 1 ≤ m) (l Bs n₀ : Nat) (A : Option Addr) (n cap : Nat) (ss : List Short) (hn : n ≤ 140737488355328) (J Jx : List Short → World → Prop)
    (hY : ∀ pre (x : Short) W, J pre W → pre.length < n → YieldAt Fence.wide (m - 1) Try.prog l #[.string x.1] W fun e W' =>
      (e = .returned (.bool true) ∧ J (pre ++ [x]) W' ∧ Below n₀ W W') ∨ (e = .returned (.bool false) ∧ Jx (pre ++ [x]) W'))
    (W : World) (hBs : W.cell? ⟨Bs, 0, none⟩ = some (.slice A n cap)) (hl : ss.length = n)
    (hc : n = 0 ∨ ∃ b off, A = some ⟨b, off, none⟩ ∧ b < n₀ ∧ ∀ i, i < n → W.cell? ⟨b, off + i, none⟩ = some (.string ((raw ss).getD i ByteArray.empty))) (h0 : J [] W) :
    CallsIn Fence.wide m Try.prog 17 #[.func (.yield l) #[] #[], .pointer (some ⟨Bs, 0, none⟩)] W fun e W' => (∃ v, e = .returned v) ∧
      ((∃ ys, ys = ss ∧ J ys W') ∨ (∃ pre, pre <+: ss ∧ Jx pre W')) := by
  refine callsIn_of_wp Try.func17 rfl trivial ?_ rfl
  simp only [Try.ntmps17, List.size_toArray, List.length_cons, List.length_nil, Nat.reduceAdd, Nat.reduceSub, Array.replicate_succ, Array.replicate_zero, List.push_toArray, List.append_toArray, List.nil_append, List.cons_append]
  gi_wp2
  gi_loopw [7] (fun i wr => ∃ k : Nat, k ≤ n ∧ i = .int .i64 k ∧ J (ss.take k) wr ∧ Below n₀ W wr)
    (fun i _ => n - (intOf i).toNat)
  case atStart => exact ⟨0, Nat.zero_le _, rfl, h0, Below.refl _ _⟩
  case round =>
    obtain ⟨k, hk, rfl, hJs, hnx⟩ := hrel
    by_cases hlt : k < n
    · rcases hc with h | ⟨b, off, rfl, hb, hcs⟩
      · omega
      have hkl : k < ss.length := by omega
      obtain ⟨fn, tmps, assign, body, hy, hR⟩ := hY _ (ss[k]'hkl) wr hJs (by rw [List.length_take]; omega)
      have hcx : wr.cell? ⟨b, off + k, none⟩ = some (.string (ss[k]'hkl).1) := by rw [hnx.cell (p := ⟨b, off + k, none⟩) hb, hcs k hlt, raw_getD ss k hkl]
      have HS := Lib.hid (take_step ss k hkl)
      generalize ss[k]'hkl = x at hy hR hcx HS
      clear hcs hJs
      gi_wp2
      refine hR.mono ?_
      rintro e W3 (⟨rfl, hJ3, hk3⟩ | ⟨rfl, hJx3⟩)
      · gi_wp2
        go_roundw
        case rel => exact ⟨k + 1, by omega, by simp, by rw [HS.out]; exact hJ3, hnx.trans hk3⟩
        case measure => simp [intOf]; omega
      · gi_wp2
        refine bodyPost_ret (results_none rfl _ _ _) rfl ?_
        exact ⟨⟨_, rfl⟩, .inr ⟨_, by rw [← HS.out]; exact List.take_prefix _ _, hJx3⟩⟩
    · obtain rfl : k = n := by omega
      clear hc
      gi_wp2
      go_end0
      exact ⟨⟨_, rfl⟩, .inl ⟨_, rfl, by rw [List.take_of_length_le (by omega)] at hJs; exact hJs⟩⟩

theorem values_in (m : Nat) (A : Option Addr) (n cap : Nat) (w : World) :
    CallsIn Fence.wide m Try.prog 14 #[.slice A n cap] w fun e w' => e = .returned (.func (.func 17) #[] #[.pointer (some ⟨w.heap.size, 0, none⟩)]) ∧ w' = w.alloc (.cells #[.slice A n cap] 22) := by
  refine callsIn_of_wp Try.func14 rfl trivial ?_ rfl
  simp only [Try.ntmps14, List.size_toArray, List.length_cons, List.length_nil, Nat.reduceAdd, Nat.reduceSub, Array.replicate_succ, Array.replicate_zero, List.push_toArray, List.append_toArray, List.nil_append, List.cons_append]
  gi_wp2
  go_ret
  exact ⟨rfl, rfl⟩

theorem values_stops (m : Nat) (hm : 1 ≤ m) (Bs n₀ : Nat) (A : Option Addr) (n cap : Nat) (ss : List Short) (hn : n ≤ 140737488355328) (w : World) (hBs : Boxed w Bs 22 (.slice A n cap)) (hn₀ : n₀ ≤ w.heap.size) (hl : ss.length = n)
    (hc : n = 0 ∨ ∃ b off, A = some ⟨b, off, none⟩ ∧ b < n₀ ∧ ∀ i, i < n → w.cell? ⟨b, off + i, none⟩ = some (.string ((raw ss).getD i ByteArray.empty))) :
    SeqStopsK Fence.wide m Try.prog 17 #[.pointer (some ⟨Bs, 0, none⟩)] (fun x : Short => #[Value.string x.1]) (Below n₀) (fun ys => ys = ss) (fun pre => pre <+: ss) n w := fun l J Jx W hW _ _ hY h0 => by
  refine values1_in m hm l Bs n₀ A n cap ss hn J Jx hY W ((hW.cell (p := ⟨Bs, 0, none⟩) hBs.lt).trans hBs.cell) hl ?_ h0
  rcases hc with h | ⟨b, off, hA, hb, hcs⟩
  · exact .inl h
  · exact .inr ⟨b, off, hA, hb, fun i hi => (hW.cell (p := ⟨b, off + i, none⟩) (Nat.lt_of_lt_of_le hb hn₀)).trans (hcs i hi)⟩

theorem rowIs_own {β : Type} (base B : Nat) (f : β → List Int) : Own (fun s W => RowIs W base B (f s)) := by
  rintro s X Y row ⟨g, cap, hv, hr⟩ hg hrow
  have hB : some B ≠ row := fun e => by
    obtain ⟨o, ho, hc⟩ := hrow B e.symm
    rw [show X.heap[B]? = _ from hv] at ho; cases ho; cases hc
  refine ⟨g, cap, hv.kept hg hB, hr.kept hg fun e => ?_⟩
  obtain ⟨g', cap', cur, lo, hi, e', _, hh, _⟩ := hr
  injection e' with h1
  cases h1
  obtain ⟨o, ho, hc⟩ := hrow g e.symm
  rw [hh] at ho; cases ho; cases hc
theorem total_raw (l : List Short) : total ((raw l).map nums) ≤ l.length * 1048576 := by
  induction l with
  | nil => simp [raw, total]
  | cons x l ih =>
    have e : (raw (x :: l)).map nums = nums x.1 :: (raw l).map nums := by simp [raw]
    have hx := x.2
    rw [e, total_cons, nums_length, List.length_cons]
    omega

/-- A function's value stored into a variable that was just made. -/
theorem store_fn (W : World) (o : Obj) (v : Value) : (store ⟨W.heap.size + 1, 0, none⟩ (.func (.func 13) #[] #[v])).run Try.prog ((W.alloc o).alloc (.cells #[.nilFunc] 42)) = .ok () ((W.alloc o).alloc (.cells #[.func (.func 13) #[] #[v]] 42)) := by
  have hs : W.heap.size + 1 = (W.alloc o).heap.size := by simp
  have hb := Boxed.new (W.alloc o) 42 .nilFunc
  rw [hs, run_store _ _ _ _ _ rfl, hb.cell]
  simp only [hb.frozen, Bool.false_eq_true, if_false]
  rw [World.setCell_alloc_new]
  rfl

theorem text_refused (kind : Int) (A : Option Addr) (n cap : Nat) (w : World) (h : refused kind n ≠ 0) :
    Calls Try.prog 8 #[.int .i64 kind, .slice A n cap] w fun e w' => e = .returned (.tuple #[.string ⟨#[]⟩, .int .i64 (refused kind n)]) ∧ w' = w := by
  refine (callsIn_wide (n := 8)).1 ?_
  refine callsIn_of_wp_marks Try.func8 rfl trivial ?_ rfl
  simp only [Try.ntmps8, List.size_toArray, List.length_cons, List.length_nil, Nat.reduceAdd, Nat.reduceSub, Array.replicate_succ, Array.replicate_zero, List.push_toArray, List.append_toArray, List.nil_append, List.cons_append]
  have hb : (refused kind n != 0) = true := by rw [bne_iff_ne]; exact h
  gi_wp2_with (refine ⟨trivial, ?_⟩; gi_at_call 11; refine (callsIn_wide.2 (refusal_any kind n _)).mono ?_; rintro e w' ⟨rfl, rfl⟩)
  exact ⟨_, results_tmp2 rfl _ _ _, rfl, rfl⟩

set_option maxRecDepth 100000 in
set_option maxHeartbeats 2000000 in
theorem text_laid (kd : Nat) (A : Option Addr) (n cap : Nat) (ss : List Short) (w : World) (hk : kd < 256) (hn : n ≤ 65536) (hT : TextsAt w A n (raw ss)) :
    Calls Try.prog 8 #[.int .i64 kd, .slice A n cap] w fun e w' => e = .returned (.tuple #[.string (strOfNums (laid kd ((raw ss).map nums))), .int .i64 0]) ∧ Below w.heap.size w w' := by
  refine (callsIn_wide (n := 8)).1 ?_
  refine callsIn_of_wp_marks Try.func8 rfl trivial ?_ rfl
  simp only [Try.ntmps8, List.size_toArray, List.length_cons, List.length_nil, Nat.reduceAdd, Nat.reduceSub, Array.replicate_succ, Array.replicate_zero, List.push_toArray, List.append_toArray, List.nil_append, List.cons_append]
  have hb : refused kd n = 0 := by unfold refused; rw [if_neg (by omega), if_neg (by omega)]
  have hk2 : IntKind.u64.wrap (kd : Int) = kd := wrap_u64 _ (by omega) (by omega)
  have hn2 : IntKind.u64.wrap (n : Int) = n := wrap_u64 _ (by omega) (by omega)
  have hconv : ∀ W : World, (convert 9 39 (.string (strOfNums (be 1 kd) ++ strOfNums (be 4 n)))).run Try.prog W = .ok (.slice (some ⟨W.heap.size, 0, none⟩) (strOfNums (be 1 kd) ++ strOfNums (be 4 n)).size (grownCap W (strOfNums (be 1 kd) ++ strOfNums (be 4 n)).size 0 5)) (Lib.bytesWorld W 5 (strOfNums (be 1 kd) ++ strOfNums (be 4 n))) :=
    fun W => Lib.run_convert_string_bytes W 9 39 5 _ Try.underlying9 Try.underlying39 Try.underlying5
  have hs5 : (strOfNums (be 1 kd) ++ strOfNums (be 4 n)).size = 5 := by rw [ByteArray.size_append, strOfNums_size, strOfNums_size, be_length, be_length]
  generalize hS : strOfNums (be 1 kd) ++ strOfNums (be 4 n) = S at hconv hs5
  rw [hs5] at hconv
  gi_wp2_with fail
  refine ⟨trivial, (callsIn_wide.2 (refusal_any kd n _)).mono ?_⟩
  rintro e w' ⟨rfl, rfl⟩
  rw [hb]
  gi_wp2_with fail
  refine ⟨trivial, (callsIn_wide.2 (number1 kd _)).mono ?_⟩
  rintro e w1 ⟨rfl, hb1⟩
  gi_wp2_with fail
  refine ⟨trivial, (callsIn_wide.2 (number4 n _)).mono ?_⟩
  rintro e w2 ⟨rfl, hb2⟩
  gi_wp2_with fail
  have hzW : (Lib.bytesWorld w2 5 S).heap.size = w2.heap.size + 1 := Lib.bytesWorld_size w2 5 S
  have hcapm : grownCap w2 5 0 5 ≤ maxLen := grownCap_le_maxLen w2 5 0 5 (by unfold maxLen; omega)
  have hrow0 := conv_row w2 S (by rw [hs5]; exact hcapm)
  have hb3 : Below w2.heap.size w2 (Lib.bytesWorld w2 5 S) := ⟨rfl, rfl, rfl, by omega, fun j hj => Lib.bytesWorld_at_old w2 5 S j hj⟩
  rw [hs5] at hrow0
  generalize grownCap w2 5 0 5 = C0 at hrow0 ⊢
  generalize Lib.bytesWorld w2 5 S = W3 at hzW hrow0 hb3 ⊢
  rw [hzW]
  have hst := store_fn W3 (.cells #[.slice (some ⟨w2.heap.size, 0, none⟩) 5 C0] 39) (.pointer (some ⟨w2.heap.size + 1, 0, none⟩))
  rw [hzW] at hst
  rw [hst]
  clear hconv hst
  gi_wp2_with fail
  refine ⟨trivial, (values_in 7 A n cap _).mono ?_⟩
  rintro e w4 ⟨rfl, hw4⟩
  have bR : Boxed w4 (w2.heap.size + 1) 39 (.slice (some ⟨w2.heap.size, 0, none⟩) 5 C0) := by
    have := ((Boxed.new W3 39 (.slice (some ⟨w2.heap.size, 0, none⟩) 5 C0)).alloc (.cells #[.func (.func 13) #[] #[.pointer (some ⟨w2.heap.size + 1, 0, none⟩)]] 42)).alloc (.cells #[.slice A n cap] 22)
    rw [hzW] at this
    rw [hw4]; exact this
  have bF : Boxed w4 (w2.heap.size + 2) 42 (.func (.func 13) #[] #[.pointer (some ⟨w2.heap.size + 1, 0, none⟩)]) := by
    have := (Boxed.new (W3.alloc (.cells #[.slice (some ⟨w2.heap.size, 0, none⟩) 5 C0] 39)) 42 (.func (.func 13) #[] #[.pointer (some ⟨w2.heap.size + 1, 0, none⟩)])).alloc (.cells #[.slice A n cap] 22)
    rw [World.size_alloc, hzW] at this
    rw [hw4]; exact this
  have bV : Boxed w4 (w2.heap.size + 3) 22 (.slice A n cap) := by
    have := Boxed.new ((W3.alloc (.cells #[.slice (some ⟨w2.heap.size, 0, none⟩) 5 C0] 39)).alloc (.cells #[.func (.func 13) #[] #[.pointer (some ⟨w2.heap.size + 1, 0, none⟩)]] 42)) 22 (.slice A n cap)
    rw [World.size_alloc, World.size_alloc, hzW] at this
    rw [hw4]; exact this
  have hb4 : Below w2.heap.size w2 w4 := by
    rw [hw4]
    exact ((hb3.alloc (by omega) _).alloc (by rw [World.size_alloc]; omega) _).alloc (by rw [World.size_alloc, World.size_alloc]; omega) _
  have hrow4 : RowOf w4 w2.heap.size (.slice (some ⟨w2.heap.size, 0, none⟩) 5 C0) (Lib.strCells S) := by
    rw [hw4]
    exact ((hrow0.kept (World.grownBy_alloc _ _ none) (by simp [Value.ownBlock])).kept (World.grownBy_alloc _ _ none) (by simp [Value.ownBlock])).kept (World.grownBy_alloc _ _ none) (by simp [Value.ownBlock])
  have hsz4 : w4.heap.size = w2.heap.size + 4 := by rw [hw4]; simp; omega
  have hwp : ((W3.alloc (.cells #[.slice (some ⟨w2.heap.size, 0, none⟩) 5 C0] 39)).alloc (.cells #[.func (.func 13) #[] #[.pointer (some ⟨w2.heap.size + 1, 0, none⟩)]] 42)).heap.size = w2.heap.size + 3 := by simp; omega
  have hb5 : Below w'.heap.size w' w4 := hb1.trans ((hb2.mono hb1.size).trans (hb4.mono (Nat.le_trans hb1.size hb2.size)))
  have hge : w'.heap.size ≤ w2.heap.size := Nat.le_trans hb1.size hb2.size
  rw [hwp]
  clear hw4 hwp hrow0 hb3 hb4 hzW hcapm
  gi_wp2_with fail
  have hsum : w2.heap.size + 1 + 1 = w2.heap.size + 2 := rfl
  rw [hsum]
  refine wpIn_rangeFunc_ownG rfl (by omega) (gf := 17) (lb := #[.pointer (some ⟨w2.heap.size + 3, 0, none⟩)]) rfl trivial (enters_of Try.func17 (by kernel_rfl) rfl)
    (values_stops 7 (by omega) (w2.heap.size + 3) w'.heap.size A n cap ss (by omega) w4 bV (by omega) (by rw [← raw_length]; exact hT.1) ?cells) belowK_t (belowK_b (by omega)) (Below.refl _ _) (fun _ => rfl)
    (fun pre W => (RowIs W w2.heap.size (w2.heap.size + 1) (nums S ++ body ((raw pre).map nums)) ∧ Boxed W (w2.heap.size + 2) 42 (.func (.func 13) #[] #[.pointer (some ⟨w2.heap.size + 1, 0, none⟩)])) ∧ Below w'.heap.size w' W)
    (fun _ _ _ => False)
    (OwnFrom.and (OwnFrom.and (Own.from (rowIs_own _ _ (fun pre => nums S ++ body ((raw pre).map nums))) _) (Own.from (boxed_own _ _ _) _)) (ownFrom_below (Nat.le_refl _) (by omega)))
    (fun _ _ _ _ _ hs _ _ => hs)
    ⟨⟨?row, bF⟩, hb5⟩
    (fun x => { tmps := #[.int .i64 kd, .slice A n cap, undef, undef, .string ⟨#[]⟩, .int .i64 0, .int .i64 0, .pointer (some ⟨w2.heap.size + 1, 0, none⟩), .pointer (some ⟨w2.heap.size + 2, 0, none⟩), .string x.1, .int .i64 kd, .slice A n cap, .int .i64 n, .int .i64 0, .int .i64 0,
      .bool false, undef, .int .i64 kd, .int .u64 kd, .string (strOfNums (be 1 kd)), .slice A n cap, .int .i64 n, .int .u64 n, .string (strOfNums (be 4 n)), .string S, .slice (some ⟨w2.heap.size, 0, none⟩) 5 C0,
      .func (.func 13) #[] #[.pointer (some ⟨w2.heap.size + 1, 0, none⟩)], .slice A n cap, .func (.func 17) #[] #[.pointer (some ⟨w2.heap.size + 3, 0, none⟩)], .string x.1, undef, undef, undef, undef, undef], defers := [] }) ?assign ?body ?done ?stop
  case cells =>
    rcases hT.2 with h | ⟨b, off, hA, hbl, hcs⟩
    · exact .inl h
    · exact .inr ⟨b, off, hA, hbl, fun i hi => (hb5.cell (p := ⟨b, off + i, none⟩) hbl).trans (hcs i hi)⟩
  case row =>
    have e : nums S ++ body ((raw []).map nums) = nums S := by simp [raw, body]
    rw [e]
    refine ⟨w2.heap.size, C0, ?_, ?_⟩
    · rw [nums_length, hs5]; exact bR
    · rw [nums_length, hs5, ← cells_nums]; exact hrow4
  case assign =>
    intro l x W K hK
    gi_wp2
    exact hK
  case body =>
    rintro l pre x W ⟨⟨hrow, hfb⟩, hB⟩ hlen
    have hcf := hfb.cell
    have hx2 := x.2
    have hW : w2.heap.size ≤ W.heap.size := by have := hfb.lt; omega
    have hroom : (nums S ++ body ((raw pre).map nums)).length + 8 + x.1.size ≤ 140737488355328 := by
      have := total_raw pre
      rw [List.length_append, nums_length, body_length, List.length_map, raw_length]
      omega
    gi_wp2_with fail
    refine ⟨trivial, (CallsIn.inRound l (callsIn_wide.2 (lay_any x.1 W w2.heap.size (w2.heap.size + 1) _ hrow (by omega) hW hroom))).mono ?_⟩
    rintro e W' ⟨rfl, hrow', hko', hbe', hsp'⟩
    have hrow2 : RowIs W' w2.heap.size (w2.heap.size + 1) (nums S ++ body ((raw (pre ++ [x])).map nums)) := by
      have e : nums S ++ body ((raw (pre ++ [x])).map nums) = nums S ++ body ((raw pre).map nums) ++ be 8 x.1.size ++ nums x.1 := by
        rw [raw_append, List.map_append]
        show nums S ++ body ((raw pre).map nums ++ [nums x.1]) = _
        rw [body_snoc, nums_length]
        simp only [List.append_assoc]
      rw [e]; exact hrow'
    have hfb' := hsp'.boxed hfb (by omega) (by decide)
    clear hrow hrow' hfb hcf
    gi_wp2_with fail
    exact ⟨hko'.from _, hbe'.mono hge, ⟨hrow2, hfb'⟩, hB.trans (hbe'.mono hge)⟩
  case done =>
    rintro D ys W hD rfl ⟨⟨hrow, hfb⟩, hB⟩ hK
    obtain ⟨g, c, hvb, hr⟩ := hrow
    have hcb := hvb.cell
    have hX : nums S ++ body ((raw ys).map nums) = laid kd ((raw ys).map nums) := by
      have e1 : nums S = be 1 kd ++ be 4 n := by
        rw [← hS, nums_append, nums_strOfNums _ (be_bytes _ _), nums_strOfNums _ (be_bytes _ _)]
      have e2 : ((raw ys).map nums).length = n := by rw [List.length_map]; exact hT.1
      rw [e1, laid, e2]
    rw [hX] at hcb hr
    have hconv : (convert 39 9 (.slice (some ⟨g, 0, none⟩) (laid kd ((raw ys).map nums)).length c)).run Try.prog W = .ok (.string (strOfNums (laid kd ((raw ys).map nums)))) W :=
      run_convert_bytes_arg W 39 5 Try.underlying39 Try.underlying5 g 0 _ c (laid kd ((raw ys).map nums)) rfl
        (fun i hi => by
          rw [Nat.zero_add]
          exact hr.cells i _ (by rw [List.getElem?_map, List.getElem?_eq_getElem hi]; simp [List.getD, List.getElem?_eq_getElem hi])) 9 Try.underlying9
    clear hr hvb hX hT hS
    generalize hXd : laid kd ((raw ys).map nums) = X at hcb hconv ⊢
    have HX := Lib.hid hXd
    clear hXd
    gi_wp2_with fail
    refine ⟨by simp, .inl ⟨_, _, rfl, run_takeDeferred hK, ?_⟩⟩
    exact ⟨_, results_tmp2 rfl _ _ _, by rw [HX.out]; rfl, hB.trans (belowK_b (w := w') (Nat.le_refl _) W D _ _ (by omega) hK rfl rfl)⟩
  case stop =>
    rintro D c pre W _ _ h _
    exact h.elim

/-! ### the document's example -/
def two : ByteArray := ⟨#[97, 98]⟩
theorem shown_any (w : World) : Calls Try.prog 6 #[] w fun e w' => e = .returned (.bool true) ∧ Below w.heap.size w w' := by
  have hT : TextsAt (w.alloc (.cells #[.string two] 9)) (some ⟨w.heap.size, 0, none⟩) 1 (raw [⟨two, by decide⟩]) := by
    refine ⟨rfl, .inr ⟨w.heap.size, 0, rfl, by simp, fun i hi => ?_⟩⟩
    obtain rfl : i = 0 := by omega
    exact (Boxed.new w 9 (.string two)).cell
  have he : strOfNums (laid 1 ((raw [⟨two, by decide⟩]).map nums)) = ⟨#[1, 0, 0, 0, 1, 0, 0, 0, 0, 0, 0, 0, 2, 97, 98]⟩ := by rfl
  go_enter Try.func6, Try.ntmps6
  go_wp2_with fail
  refine (text_laid 1 (some ⟨w.heap.size, 0, none⟩) 1 1 [⟨two, by decide⟩] _ (by omega) (by omega) hT).mono ?_
  rintro e w1 ⟨rfl, hb1⟩
  rw [he]
  go_wp2
  go_ret
  exact ⟨rfl, ((Below.refl _ w).alloc (Nat.le_refl _) _).trans (hb1.mono (by simp))⟩
end Go.Proofs.YtdfmaimeogcpdaaRRRR
