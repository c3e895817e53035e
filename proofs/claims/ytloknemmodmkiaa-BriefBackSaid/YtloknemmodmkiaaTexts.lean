/- Text of a brief is its 33 bytes. All memory that was there stays. Condition: the brief's numbers fit their kinds. -/
import Derived.Test.YtloknemmodmkiaaText
import Derived.Laws.MakeOwn
import Derived.RangeFuncCalls
import Derived.Shelf.Abstract
import Derived.OwnWalkIn
import Derived.TacticsInMore
import Derived.LoopNIn
import Derived.LoopIn
import Derived.RangeFuncLeaves
import Derived.IntWalk
import Derived.Test.YtloknemmodmkiaaRound
namespace Go.Proofs.Ytloknemmodmkiaa
open Go.ChangeShapes Go.WideShapes Go.ChangeAt Go.RowKit Go.Shelf
attribute [local go_sem] Oper.semAt_some

theorem numbers_in (n : Nat) (f l : Int) (G R M : Nat) (k : Bool) (w : World) :
    CallsIn Fence.wide n Try.prog 25 #[.agg #[.int .i64 f, .int .i64 l, .int .u32 G, .int .u32 R, .int .u64 M, .bool k]] w fun e w' => e = .returned (.func (.func 27) #[] #[.pointer (some ⟨w.heap.size, 0, none⟩), .pointer (some ⟨w.heap.size + 1, 0, none⟩)]) ∧
      w' = (w.alloc (.cells #[.int .i64 f, .int .i64 l, .int .u32 G, .int .u32 R, .int .u64 M, .bool k] 30)).alloc (.cells #[.int .u64 ((if k then 1 else 0 : Nat) : Int)] 28) := by
  cases k
  all_goals
    refine callsIn_of_wp Try.func25 rfl trivial ?_ rfl
    simp only [Try.ntmps25, List.size_toArray, List.length_cons, List.length_nil, Nat.reduceAdd, Nat.reduceSub, Array.replicate_succ, Array.replicate_zero, List.push_toArray, List.append_toArray, List.nil_append, List.cons_append]
    gi_wp2
    go_ret
    exact ⟨rfl, rfl⟩

theorem info5 : (Try.prog.info? 5).map (fun i => (i.zero, i.size, i.bytes)) = some (some (.int .u8 0), 1, 1) := by kernel_rfl
theorem run_make_rowN {P : Program} (t e : TypeId) (i : TypeInfo) (z : Value) (ht : P.underlying t = some (.slice e)) (hi : P.info? e = some i) (hz : i.zero = some z)
    (kl kc : IntKind) (n c : Nat) (hnc : n ≤ c) (hbytes : i.bytes * c ≤ 281474976710656) (h63 : c ≤ 9223372036854775807) (w : World) :
    (Instr.makeSlice t (.int kl (n : Int)) (.int kc (c : Int))).run P w = .ok (.slice (some ⟨w.heap.size, 0, none⟩) n c) (w.alloc (.cells (madeCells z.cells (c * i.size)) e)) := by
  have hb : (i.bytes : Int) * (c : Int) ≤ 281474976710656 := by
    have h : ((i.bytes * c : Nat) : Int) ≤ 281474976710656 := by omega
    rwa [Int.natCast_mul] at h
  have hr := run_make (P := P) w t e i z ht hi hz kl kc n c (by omega) (by omega) hb (by omega)
  simp only [Int.toNat_natCast] at hr
  exact hr

/-- What Text's variables hold when these numbers have come. -/
def Kept (n₀ : Nat) (b : Br) (K : Nat) (w : World) (pre : List Item) (W : World) : Prop :=
  (∃ v, Boxed W (n₀ + 1 + 1) 57 v ∧ W.ownsRow (n₀ + 1) 5 1 v (told pre).length ((told pre).map (Value.int .u8))) ∧ Box6 W (n₀ + 1 + 1 + 1) b ∧ Boxed W (n₀ + 1 + 1 + 1 + 1) 28 (.int .u64 K) ∧ Below n₀ w W ∧ n₀ + 1 ≤ W.heap.size
/-- Within a round: so many bytes of a number have been laid. -/
def Laying (n₀ : Nat) (b : Br) (K : Nat) (w W0 : World) (pre : List Item) (sz N j : Nat) (W : World) : Prop :=
  (∃ v, Boxed W (n₀ + 1 + 1) 57 v ∧ W.ownsRow (n₀ + 1) 5 1 v ((told pre).length + j) ((told pre ++ (be sz N).take j).map (Value.int .u8))) ∧ Box6 W (n₀ + 1 + 1 + 1) b ∧ Boxed W (n₀ + 1 + 1 + 1 + 1) 28 (.int .u64 K) ∧ Below n₀ w W ∧ KeepsOthers W0 W ∧ n₀ + 1 ≤ W.heap.size
theorem Box6.not_row {W : World} {B : Nat} {b : Br} (h : Box6 W B b) {base size k : Nat} {v : Value} {xs : List Value} (hr : W.ownsRow base 5 size v k xs) : some B ≠ v.ownBlock := by
  rcases hr.2 with ⟨rfl, _⟩ | ⟨g, cap, cur, rfl, _, hh, _⟩
  · simp [Value.ownBlock]
  · intro he
    obtain rfl : B = g := by simpa [Value.ownBlock] using he
    unfold Box6 at h
    rw [h] at hh
    cases hh
theorem Laying.step {n₀ : Nat} {b : Br} {K : Nat} {w W0 wr w2 : World} {pre : List Item} {sz N j : Nat} {v v2 : Value} {tmp : Obj} {y : Int} (hv : Boxed wr (n₀ + 1 + 1) 57 v) (hrow : wr.ownsRow (n₀ + 1) 5 1 v ((told pre).length + j) ((told pre ++ (be sz N).take j).map (Value.int .u8)))
    (hB : Box6 wr (n₀ + 1 + 1 + 1) b) (hK : Boxed wr (n₀ + 1 + 1 + 1 + 1) 28 (.int .u64 K)) (hb : Below n₀ w wr) (hk : KeepsOthers W0 wr) (hsz : n₀ + 1 ≤ wr.heap.size)
    (hown : w2.ownsRow (n₀ + 1) 5 1 v2 ((told pre).length + j + 1) (((told pre ++ (be sz N).take j).map (Value.int .u8)) ++ [.int .u8 y])) (hgrow : (wr.alloc tmp).grownBy w2 v.ownBlock) (hbt : (be sz N).take (j + 1) = (be sz N).take j ++ [y]) :
    Boxed w2 (n₀ + 1 + 1) 57 v ∧ Laying n₀ b K w W0 pre sz N (j + 1) (w2.setCell ⟨n₀ + 1 + 1, 0, none⟩ v2) := by
  obtain ⟨a1, a2, a3, a4, a5⟩ := hv.appended (by decide) hrow hsz (by omega) hown hgrow
  have gB : some (n₀ + 1 + 1 + 1) ≠ v.ownBlock := hB.not_row hrow
  have gK : some (n₀ + 1 + 1 + 1 + 1) ≠ v.ownBlock := hK.not_row (by decide) hrow
  have hB2 : Box6 w2 (n₀ + 1 + 1 + 1) b := (hgrow.block _ (by have := hB.lt; simp; omega) gB).trans ((Below.heap_alloc wr tmp _ hB.lt).trans hB)
  have hK2 : Boxed w2 (n₀ + 1 + 1 + 1 + 1) 28 (.int .u64 K) := (hgrow.block _ (by have := hK.lt; simp; omega) gK).trans ((Below.heap_alloc wr tmp _ hK.lt).trans hK)
  refine ⟨a1, ⟨v2, a2, ?_⟩, (Below.heap_setCell _ _ _ _ (show n₀ + 1 + 1 + 1 ≠ n₀ + 1 + 1 by omega)).trans hB2, (Below.heap_setCell _ _ _ _ (show n₀ + 1 + 1 + 1 + 1 ≠ n₀ + 1 + 1 by omega)).trans hK2, hb.trans (a5.mono (by omega)), hk.trans a4, ?_⟩
  · rw [hbt, ← List.append_assoc, List.map_append]
    exact a3
  · have := a5.size
    omega

theorem Kept.loose {n₀ B : Nat} {b : Br} {K : Nat} {w : World} (hB : n₀ < B) (pre : List Item) (X Y : World) (h : Kept n₀ b K w pre X) (hl : Loose B n₀ X Y) : Kept n₀ b K w pre Y := by
  obtain ⟨⟨v, hv, hrow⟩, h6, hk, hb, hsz⟩ := h
  refine ⟨⟨v, hl.same _ _ (by omega) hv (.inr rfl), hrow.1, ?_⟩, hl.same _ _ (by omega) h6 (.inr rfl), hl.same _ _ (by omega) hk (.inr rfl), ⟨hl.os.trans hb.os, hl.tape.trans hb.tape, hl.output.trans hb.output, Nat.le_trans hb.size hl.size, fun k hk => ?_⟩, Nat.le_trans hsz hl.size⟩
  · rcases hrow.2 with h0 | ⟨g, cap, cur, e, hg, hh, rest⟩
    · exact .inl h0
    · exact .inr ⟨g, cap, cur, e, hg, hl.same _ _ (by omega) hh (.inr rfl), rest⟩
  · have hlt : k < X.heap.size := by omega
    have hX := hb.block k hk
    rw [← hX]
    exact (hl.same k _ (by omega) (Array.getElem?_eq_getElem hlt) (.inl (by omega))).trans (Array.getElem?_eq_getElem hlt).symm

theorem be_at (k n j : Nat) (h : j < k) : (be k n)[j]? = some ((n / 256 ^ (k - 1 - j) % 256 : Nat) : Int) := by
  induction k generalizing j with
  | zero => omega
  | succ k ih =>
    cases j with
    | zero => simp [be]
    | succ j =>
      rw [be, List.getElem?_cons_succ, ih j (by omega)]
      congr 5
      omega
theorem be_take (k n j : Nat) (h : j < k) : (be k n).take (j + 1) = (be k n).take j ++ [((n / 256 ^ (k - 1 - j) % 256 : Nat) : Int)] := by
  obtain ⟨hj, hx⟩ := List.getElem?_eq_some_iff.1 (be_at k n j h)
  rw [List.take_succ_eq_append_getElem hj, hx]
theorem shift_at (n d : Nat) : (n : Int) / 2 ^ (8 * d) % 256 = ((n / 256 ^ d % 256 : Nat) : Int) := by
  have e : (2 : Int) ^ (8 * d) = ((256 ^ d : Nat) : Int) := by rw [Int.pow_mul]; simp
  rw [e]
  simp

set_option maxRecDepth 100000 in
set_option maxHeartbeats 4000000 in
theorem text_at (f l : Int) (F L G R M K : Nat) (k : Bool) (hF : F < 18446744073709551616) (hL : L < 18446744073709551616) (hG : G < 18446744073709551616) (hR : R < 18446744073709551616) (hM : M < 18446744073709551616) (hK : K < 18446744073709551616)
    (eF : f % 18446744073709551616 = (F : Int)) (eL : l % 18446744073709551616 = (L : Int)) (eK : (if k then 1 else 0 : Nat) = K) (w : World) :
    Calls Try.prog 19 #[.agg #[.int .i64 f, .int .i64 l, .int .u32 G, .int .u32 R, .int .u64 M, .bool k]] w fun e w' => e = .returned (.string (strOfNums (told (numbersOf F L G R M K hF hL hG hR hM hK)))) ∧ Below w.heap.size w w' := by
  obtain ⟨i0, hi, hz0, hz1, hz2⟩ := info_of info5
  have hmk : ∀ W : World, (Instr.makeSlice 57 (.int .i64 0) (.int .i64 33)).run Try.prog W = .ok (.slice (some ⟨W.heap.size, 0, none⟩) 0 33) (W.alloc (.cells (madeCells (Value.int .u8 0).cells (33 * 1)) 5)) := fun W => by
    have h := run_make_rowN (P := Try.prog) 57 5 i0 (.int .u8 0) Try.underlying57 hi hz0 .i64 .i64 0 33 (by omega) (by rw [hz2]; omega) (by omega) W
    rw [hz1] at h
    exact h
  obtain ⟨Z, hZ⟩ : ∃ Z, madeCells (Value.int .u8 0).cells (33 * 1) = Z := ⟨_, rfl⟩
  have hZs : Z.size = 33 * 1 := by rw [← hZ]; simp [madeCells, Value.cells]
  rw [hZ] at hmk
  clear hZ
  have HI := Lib.hid hi
  have HI0 := Lib.hid hz0
  have HI1 := Lib.hid hz1
  have HI2 := Lib.hid hz2
  clear hi hz0 hz1 hz2
  refine (callsIn_wide (n := 8)).1 ?_
  refine callsIn_of_wp_marks Try.func19 rfl trivial ?_ rfl
  simp only [Try.ntmps19, List.size_toArray, List.length_cons, List.length_nil, Nat.reduceAdd, Nat.reduceSub, Array.replicate_succ, Array.replicate_zero, List.push_toArray, List.append_toArray, List.nil_append, List.cons_append]
  gi_wp2_with fail
  refine ⟨trivial, (numbers_in 7 f l G R M k _).mono ?_⟩
  rintro e W2 ⟨rfl, hW2⟩
  rw [eK] at hW2
  have sz2 : W2.heap.size = w.heap.size + 5 := by rw [hW2]; simp
  have bK : Boxed W2 (w.heap.size + 1 + 1 + 1 + 1) 28 (.int .u64 K) := by
    rw [hW2]
    have h := Boxed.new ((((w.alloc (.cells #[.int .i64 f, .int .i64 l, .int .u32 G, .int .u32 R, .int .u64 M, .bool k] 30)).alloc (.cells Z 5)).alloc (.cells #[.slice (some ⟨w.heap.size + 1, 0, none⟩) 0 33] 57)).alloc (.cells #[.int .i64 f, .int .i64 l, .int .u32 G, .int .u32 R, .int .u64 M, .bool k] 30)) 28 (.int .u64 K)
    simpa using h
  have bB : Box6 W2 (w.heap.size + 1 + 1 + 1) ⟨f, l, G, R, M, k⟩ := by
    rw [hW2]
    have h := (Box6.new (((w.alloc (.cells #[.int .i64 f, .int .i64 l, .int .u32 G, .int .u32 R, .int .u64 M, .bool k] 30)).alloc (.cells Z 5)).alloc (.cells #[.slice (some ⟨w.heap.size + 1, 0, none⟩) 0 33] 57)) ⟨f, l, G, R, M, k⟩).below (alloc_below _ (.cells #[.int .u64 (K : Int)] 28))
    simpa using h
  have bP : Boxed W2 (w.heap.size + 1 + 1) 57 (.slice (some ⟨w.heap.size + 1, 0, none⟩) 0 33) := by
    rw [hW2]
    have h := ((Boxed.new ((w.alloc (.cells #[.int .i64 f, .int .i64 l, .int .u32 G, .int .u32 R, .int .u64 M, .bool k] 30)).alloc (.cells Z 5)) 57 (.slice (some ⟨w.heap.size + 1, 0, none⟩) 0 33)).alloc (.cells #[.int .i64 f, .int .i64 l, .int .u32 G, .int .u32 R, .int .u64 M, .bool k] 30)).alloc (.cells #[.int .u64 (K : Int)] 28)
    simpa using h
  have oR : W2.ownsRow (w.heap.size + 1) 5 1 (.slice (some ⟨w.heap.size + 1, 0, none⟩) 0 33) 0 [] := by
    refine ⟨rfl, .inr ⟨_, 33, Z, rfl, Nat.le_refl _, ?_, by decide, by unfold maxLen; decide, hZs, by simp⟩⟩
    have h : ((w.alloc (.cells #[.int .i64 f, .int .i64 l, .int .u32 G, .int .u32 R, .int .u64 M, .bool k] 30)).alloc (.cells Z 5)).heap[w.heap.size + 1]? = some (.cells Z 5) := by
      have := heap_alloc_last (w.alloc (.cells #[.int .i64 f, .int .i64 l, .int .u32 G, .int .u32 R, .int .u64 M, .bool k] 30)) (.cells Z 5)
      simpa using this
    rw [hW2]
    rw [Below.heap_alloc _ _ _ (by simp), Below.heap_alloc _ _ _ (by simp), Below.heap_alloc _ _ _ (by simp)]
    exact h
  have hB2 : Below w.heap.size w W2 := by
    rw [hW2]
    exact ((((alloc_below w _).alloc (by simp) _).alloc (by simp; omega) _).alloc (by simp; omega) _).alloc (by simp; omega) _
  clear hW2 hZs hmk
  gi_wp2_with fail
  refine wpIn_range_state rfl (by omega) (gf := 27) (lb := #[.pointer (some ⟨w.heap.size + 1 + 1 + 1, 0, none⟩), .pointer (some ⟨w.heap.size + 1 + 1 + 1 + 1, 0, none⟩)]) rfl trivial (enters_of Try.func27 (by kernel_rfl) rfl)
    (nums_in 7 (by omega) w.heap.size (w.heap.size + 1 + 1 + 1) (w.heap.size + 1 + 1 + 1 + 1) f l F L G R M K k hF hL hG hR hM hK eF eL W2 bB bK) (by omega) (fun h k => ⟨k.1.trans h.1, k.2.trans h.2⟩) (fun W l o' hl => ⟨World.putObj_heap_other (by omega), World.putObj_heap_other (by omega)⟩) (fun _ => rfl)
    (Kept w.heap.size ⟨f, l, G, R, M, k⟩ K w) (fun pre X Y => Kept.loose (by omega) pre X Y) ⟨⟨_, bP, oR⟩, bB, bK, hB2, by omega⟩
    (fun x => { tmps := #[.agg #[.int .i64 f, .int .i64 l, .int .u32 G, .int .u32 R, .int .u64 M, .bool k], .pointer (some ⟨w.heap.size, 0, none⟩), .string ⟨#[]⟩, .pointer (some ⟨w.heap.size + 1 + 1, 0, none⟩), .int .u64 x.n, .int .i64 x.s, undef, .slice (some ⟨w.heap.size + 1, 0, none⟩) 0 33, .agg #[.int .i64 f, .int .i64 l, .int .u32 G, .int .u32 R, .int .u64 M, .bool k], .func (.func 27) #[] #[.pointer (some ⟨w.heap.size + 1 + 1 + 1, 0, none⟩), .pointer (some ⟨w.heap.size + 1 + 1 + 1 + 1, 0, none⟩)], .int .u64 x.n, .int .i64 x.s, undef, undef, undef, undef, undef, undef, undef, undef, undef, undef, undef, undef, undef, undef, undef, undef, undef, undef], defers := [] }) ?assign ?body ?done
  case assign =>
    intro l x W K hK
    gi_wp2
    exact hK
  case body =>
    rintro ll pre x W ⟨⟨v, hbv, hrow⟩, h6, hK6, hB, hsz⟩ hlen
    obtain ⟨N, sz, hN, hs⟩ := x
    have hcv := hbv.cell
    gi_wp2
    gi_loopw [13] (fun i wr => ∃ j : Nat, j ≤ sz ∧ i = .int .i64 j ∧ Laying w.heap.size ⟨f, l, G, R, M, k⟩ K w W pre sz N j wr) (fun i _ => sz - (intOf i).toNat)
    case atStart => exact ⟨0, Nat.zero_le _, rfl, ⟨v, hbv, by simpa using hrow⟩, h6, hK6, hB, KeepsOthers.refl _, hsz⟩
    case round =>
      obtain ⟨j, hj, rfl, ⟨v', hbv', hrow'⟩, h6', hK6', hB', hk', hsz'⟩ := hrel
      by_cases hlt : j < sz
      · have hc := hbv'.cell
        obtain ⟨d, hd⟩ : ∃ d : Nat, d = sz - 1 - j := ⟨_, rfl⟩
        obtain ⟨y, hy⟩ : ∃ y : Nat, N / 256 ^ d % 256 = y := ⟨_, rfl⟩
        have s1 : IntKind.i64.wrap ((sz : Int) - 1) = (sz : Int) - 1 := IntWalk.i64_in _ (by omega)
        have s2 : (sz : Int) - 1 - (j : Int) = (d : Int) := by omega
        have s3 : IntKind.i64.wrap (d : Int) = (d : Int) := IntWalk.i64_in _ (by omega)
        have s4 : IntKind.i64.wrap (8 * (d : Int)) = 8 * (d : Int) := IntWalk.i64_in _ (by omega)
        have s5 : 0 ≤ 8 * (d : Int) := by omega
        have s6 : (8 * (d : Int)).toNat = 8 * d := by omega
        have s7 : (N : Int) / 2 ^ (8 * d) % 256 = (y : Int) := by rw [shift_at, hy]
        have hbt := be_take sz N j hlt
        rw [← hd, hy] at hbt
        have HBT := Lib.hid hbt
        obtain ⟨v2, w2, hr, hown, hgrow, _⟩ := run_append_own (P := Try.prog) (w := (wr.alloc (.cells #[.int .u8 (y : Int)] 5)).drew) (w.heap.size + 1) 57 57 5 i0 (.int .u8 0) 1 1 Try.underlying57 HI.out HI0.out HI1.out HI2.out rfl (by decide) v' _ _ (hrow'.alloc _).drew ⟨wr.heap.size, 0, none⟩ 1 1 [.int .u8 (y : Int)] rfl (cells_new wr #[.int .u8 (y : Int)] 5) (by simp [Value.oneCell']) (by unfold maxLen; have := told_length pre; omega) (by have := told_length pre; omega) (by simp; omega)
        have e0 : ∀ o, (wr.alloc o).cell? ⟨w.heap.size + 1 + 1, 0, none⟩ = some v' := fun o => (hbv'.alloc o).cell
        obtain ⟨b1, hlay⟩ := Laying.step (tmp := .cells #[.int .u8 (y : Int)] 5) hbv' hrow' h6' hK6' hB' hk' hsz' hown ⟨hgrow.os, hgrow.tape, hgrow.output, hgrow.size, hgrow.block⟩ HBT.out
        obtain ⟨g2, cap2, rfl⟩ := ownsRow_succ hown
        have f1 := b1.cell
        have f2 := b1.frozen
        have HLAY := Lib.hid hlay
        clear hlay hown hgrow b1 hbv' hrow' h6' hK6' hB' hk' hsz' hrow hbv h6 hK6 hB hsz hcv
        clear hd hy hbt hlt
        gi_wp2
        refine region_round ll (by kernel_rfl) (plain_of (by kernel_rfl)) ?_
        refine wpAnyIn_take (i := 1) (v := .int .u64 (N : Int)) rfl rfl (by kernel_rfl) (by kernel_rfl) (by kernel_rfl) (fun _ _ _ h => h) ⟨Or.inl ⟨by rfl, fun W => ?_⟩, fun _ => rfl⟩ ?_
        · go_simp
        refine wpAnyIn_take (i := 2) (v := .int .i64 (sz : Int)) rfl rfl (by kernel_rfl) (by kernel_rfl) (by kernel_rfl) (fun _ _ _ h => h) ⟨Or.inl ⟨by rfl, fun W => ?_⟩, fun _ => rfl⟩ ?_
        · go_simp
        refine wpAnyIn_take (i := 4) (v := .int .i64 (j : Int)) rfl rfl (by kernel_rfl) (by kernel_rfl) (by kernel_rfl) (fun _ _ _ h => h) ⟨Or.inl ⟨by rfl, fun W => ?_⟩, fun _ => rfl⟩ ?_
        · go_simp
        refine wpAnyIn_take (i := 3) (v := .int .i64 ((sz : Int) - 1)) rfl rfl (by kernel_rfl) (by kernel_rfl) (by kernel_rfl) (fun _ _ _ h => h) ⟨Or.inl ⟨by rfl, fun W => ?_⟩, fun _ => rfl⟩ ?_
        · go_simp
        refine wpAnyIn_take (i := 5) (v := .int .i64 (d : Int)) rfl rfl (by kernel_rfl) (by kernel_rfl) (by kernel_rfl) (fun _ _ _ h => h) ⟨Or.inl ⟨by rfl, fun W => ?_⟩, fun _ => rfl⟩ ?_
        · go_simp
        refine wpAnyIn_take (i := 6) (v := .int .i64 (8 * (d : Int))) rfl rfl (by kernel_rfl) (by kernel_rfl) (by kernel_rfl) (fun _ _ _ h => h) ⟨Or.inl ⟨by rfl, fun W => ?_⟩, fun _ => rfl⟩ ?_
        · go_simp
        refine wpAnyIn_take (i := 7) (v := .int .u64 ((N : Int) / 2 ^ (8 * d))) rfl rfl (by kernel_rfl) (by kernel_rfl) (by kernel_rfl) (fun _ _ _ h => h) ⟨Or.inl ⟨by rfl, fun W => ?_⟩, fun _ => rfl⟩ ?_
        · go_simp
        refine wpAnyIn_take (i := 8) (v := .int .u8 (y : Int)) rfl rfl (by kernel_rfl) (by kernel_rfl) (by kernel_rfl) (fun _ _ _ h => h) ⟨Or.inl ⟨by rfl, fun W => ?_⟩, fun _ => rfl⟩ ?_
        · go_simp
          rw [IntKind.wrap_u8, s7]
        refine wpAnyIn_ready (rs := [0, 9]) (by kernel_rfl) (by simp) ?_
        refine AllReadyIn.cons rfl (fun K hK => ?_) (AllReadyIn.cons rfl (fun K hK => ?_) AllReadyIn.nil)
        case refine_1 =>
          go_simp
          refine hK _ _ ?_
          clear hK K
          refine wpAnyIn_ready (rs := [9]) (by kernel_rfl) (by simp) ?_
          refine AllReadyIn.cons rfl (fun K hK => ?_) AllReadyIn.nil
          go_simp
          refine hK _ _ ?_
          clear hK K
          refine wpAnyIn_ready (rs := [10]) (by kernel_rfl) (by simp) ?_
          refine AllReadyIn.cons rfl (fun K hK => ?_) AllReadyIn.nil
          refine step_append rfl (.tmp 16) (.tmp 25) 57 rfl _ _ _ _ rfl rfl hr ?_
          refine hK _ _ ?_
          clear hK K
          refine wpAnyIn_ready (rs := [11]) (by kernel_rfl) (by simp) ?_
          refine AllReadyIn.cons rfl (fun K hK => ?_) AllReadyIn.nil
          go_simp
          refine hK _ _ ?_
          clear hK K
          refine wpAnyIn_done (by kernel_rfl) ?_ _
          gi_wp2
          go_roundw
          case rel => exact ⟨j + 1, by omega, by go_num, HLAY.out⟩
          case measure => simp [intOf]; omega
        case refine_2 =>
          go_simp
          refine hK _ _ ?_
          clear hK K
          refine wpAnyIn_ready (rs := [0]) (by kernel_rfl) (by simp) ?_
          refine AllReadyIn.cons rfl (fun K hK => ?_) AllReadyIn.nil
          go_simp
          refine hK _ _ ?_
          clear hK K
          refine wpAnyIn_ready (rs := [10]) (by kernel_rfl) (by simp) ?_
          refine AllReadyIn.cons rfl (fun K hK => ?_) AllReadyIn.nil
          refine step_append rfl (.tmp 16) (.tmp 25) 57 rfl _ _ _ _ rfl rfl hr ?_
          refine hK _ _ ?_
          clear hK K
          refine wpAnyIn_ready (rs := [11]) (by kernel_rfl) (by simp) ?_
          refine AllReadyIn.cons rfl (fun K hK => ?_) AllReadyIn.nil
          go_simp
          refine hK _ _ ?_
          clear hK K
          refine wpAnyIn_done (by kernel_rfl) ?_ _
          gi_wp2
          go_roundw
          case rel => exact ⟨j + 1, by omega, by go_num, HLAY.out⟩
          case measure => simp [intOf]; omega
      · obtain rfl : j = sz := by omega
        have htk : (be j N).take j = be j N := List.take_of_length_le (by rw [be_length]; exact Nat.le_refl _)
        rw [htk] at hrow'
        have hlen' : (told pre).length + j = (told (pre ++ [⟨N, j, hN, hs⟩])).length := by
          rw [told_snoc, List.length_append]
          unfold Item.bytes
          rw [be_length]
        have hnew : wr.ownsRow (w.heap.size + 1) 5 1 v' (told (pre ++ [⟨N, j, hN, hs⟩])).length ((told (pre ++ [⟨N, j, hN, hs⟩])).map (Value.int .u8)) := by
          rw [← hlen', told_snoc]
          exact hrow'
        have HN := Lib.hid hnew
        clear hnew hlen' htk hrow' hcv
        gi_wp2
        exact ⟨hk'.from _, ⟨h6'.trans h6.symm, hK6'.trans hK6.symm⟩, ⟨v', hbv', HN.out⟩, h6', hK6', hB', hsz'⟩
  case done =>
    rintro D xs W hD rfl ⟨⟨v, hbv, hrow⟩, h6, hK6, hB, hsz⟩ hKd
    have hlen : (told (numbersOf F L G R M K hF hL hG hR hM hK)).length = 32 + 1 := by
      show (be 8 F ++ (be 8 L ++ (be 4 G ++ (be 4 R ++ (be 8 M ++ (be 1 K ++ [])))))).length = 32 + 1
      simp only [List.length_append, be_length, List.length_nil]
    have hby := told_bytes (numbersOf F L G R M K hF hL hG hR hM hK)
    obtain ⟨T, hT⟩ : ∃ T, told (numbersOf F L G R M K hF hL hG hR hM hK) = T := ⟨_, rfl⟩
    rw [hlen] at hrow
    rw [hT] at hlen hby hrow
    have HT := Lib.hid hT
    clear hT
    obtain ⟨g, cap, rfl⟩ := ownsRow_succ hrow
    have hconv : (convert 57 9 (.slice (some ⟨g, 0, none⟩) (32 + 1) cap)).run Try.prog W = .ok (.string (strOfNums T)) W :=
      run_convert_bytes_arg W 57 5 Try.underlying57 Try.underlying5 _ 0 (32 + 1) cap T hlen
        (fun i hi => by
          rw [Nat.zero_add, hrow.cellAt i (by omega), List.getElem?_map, List.getElem?_eq_getElem (show i < T.length by omega)]
          simp [List.getD, List.getElem?_eq_getElem (show i < T.length by omega)]) 9 Try.underlying9
    have hlast : Below w.heap.size w (W.putObj D (.deferred none)) := hB.trans (belowK_b (w := w) (Nat.le_refl _) W D _ _ (by omega) hKd rfl rfl)
    have hc := hbv.cell
    have HL := Lib.hid hlast
    clear hlast hrow hbv h6 hK6 hB hby hlen
    gi_wp2
    refine ⟨by simp, .inl ⟨_, _, rfl, run_takeDeferred hKd, ?_⟩⟩
    exact ⟨_, results_tmp rfl _ _ _, by rw [HT.out]; rfl, HL.out⟩
end Go.Proofs.Ytloknemmodmkiaa
