/- What the document's own New answers: a disk of as many sectors of bytes of 0, or ErrArg. No conditions. -/
import Derived.Test.YtpkoonokagchgaaMade
namespace Go.Proofs.Ytpkoonokagchgaa
open Go.ChangeShapes Go.WideShapes Go.ChangeAt Go.RowKit Go.Shelf

theorem own_other {W : World} {base : Nat} {e : TypeId} {size : Nat} {v : Value} {n : Nat} {xs : List Value} (h : W.ownsRow base e size v n xs) {a : Addr} (ha : a.block < base) (u : Value) : (W.setCell a u).ownsRow base e size v n xs := by
  refine ⟨h.1, ?_⟩
  rcases h.2 with hn | ⟨g, cap, cur, rfl, hg, hgg, rest⟩
  · exact .inl hn
  · exact .inr ⟨g, cap, cur, rfl, hg, (heap_setCell_other W a g u (by omega)).trans hgg, rest⟩

set_option maxHeartbeats 1000000 in
set_option maxRecDepth 100000 in
theorem refNew_no (m s : Int) (w : World) (h : shapedB m s = false) :
    Calls Try.prog 12 #[.int .i64 m, .int .i64 s] w fun e w' => e = .returned (.tuple #[.agg #[.int .i64 0, .slice none 0 0, .slice none 0 0, .bool false], .int .i64 1]) ∧ Below w.heap.size w w' := by
  have hnot : ¬ (1 ≤ m ∧ m ≤ 4096 ∧ 96 ≤ s ∧ s ≤ 1024) := fun hh => by rw [shapedB_iff.2 hh] at h; cases h
  clear h
  by_cases q1 : m < 1
  · clear hnot
    go_enter Try.func12, Try.ntmps12
    go_wp2
    exact bodyPost_ret (v := .tuple #[.agg #[.int .i64 0, .slice none 0 0, .slice none 0 0, .bool false], .int .i64 1]) (by simp [results, Try.results12, go_sem]) rfl ⟨rfl, alloc_below w _⟩
  by_cases q2 : 4096 < m
  · clear hnot
    go_enter Try.func12, Try.ntmps12
    go_wp2
    exact bodyPost_ret (v := .tuple #[.agg #[.int .i64 0, .slice none 0 0, .slice none 0 0, .bool false], .int .i64 1]) (by simp [results, Try.results12, go_sem]) rfl ⟨rfl, alloc_below w _⟩
  by_cases q3 : s < 96
  · clear hnot
    go_enter Try.func12, Try.ntmps12
    go_wp2
    exact bodyPost_ret (v := .tuple #[.agg #[.int .i64 0, .slice none 0 0, .slice none 0 0, .bool false], .int .i64 1]) (by simp [results, Try.results12, go_sem]) rfl ⟨rfl, alloc_below w _⟩
  have q4 : 1024 < s := by omega
  clear hnot
  go_enter Try.func12, Try.ntmps12
  go_wp2
  exact bodyPost_ret (v := .tuple #[.agg #[.int .i64 0, .slice none 0 0, .slice none 0 0, .bool false], .int .i64 1]) (by simp [results, Try.results12, go_sem]) rfl ⟨rfl, alloc_below w _⟩

set_option maxHeartbeats 4000000 in
set_option maxRecDepth 100000 in
theorem refNew_yes (m s : Nat) (w : World) (h1 : 1 ≤ m) (h2 : m ≤ 4096) (h3 : 96 ≤ s) (h4 : s ≤ 1024) :
    Calls Try.prog 12 #[.int .i64 (m : Int), .int .i64 (s : Int)] w fun e w' => ∃ A' c', e = .returned (.tuple #[.agg #[.int .i64 (s : Int), .slice A' m c', .slice none 0 0, .bool false], .int .i64 0]) ∧ RowT w' A' c' (List.replicate m (zeros s)) ∧ Below w.heap.size w w' := by
  obtain ⟨i0, hi, hi0, hi1, hi2⟩ := info9
  have HI := Lib.hid hi
  have HI0 := Lib.hid hi0
  have HI1 := Lib.hid hi1
  have HI2 := Lib.hid hi2
  clear hi hi0 hi1 hi2
  have HMR := Lib.hid (fun W => made_row s (by omega) W)
  generalize zeros s = z at *
  go_enter Try.func12, Try.ntmps12
  go_upto_region 3 with fail
  obtain ⟨V0, hV0⟩ : ∃ V0, w.alloc (.cells #[.int .i64 0, .slice none 0 0, .slice none 0 0, .bool false] 25) = V0 := ⟨_, rfl⟩
  have HX4 : Hid (Bx V0 w.heap.size 25 #[.int .i64 0, .slice none 0 0, .slice none 0 0, .bool false]) := Lib.hid (by rw [← hV0]; exact Bx.new w 25 _)
  have HB0 : Hid (Below w.heap.size w V0) := Lib.hid (by rw [← hV0]; exact alloc_below w _)
  rw [hV0]
  clear hV0
  obtain ⟨W1, r1, r2, r3⟩ := HMR.out V0
  have HB1 := Lib.hid r3
  clear r3
  go_upto_region 5 with fail
  obtain ⟨V, hV⟩ : ∃ V, W1.alloc (.cells #[.int .i64 (s : Int), .slice none 0 0, .slice none 0 0, .bool false] 25) = V := ⟨_, rfl⟩
  have HX7 : Hid (Bx V W1.heap.size 25 #[.int .i64 (s : Int), .slice none 0 0, .slice none 0 0, .bool false]) := Lib.hid (by rw [← hV]; exact Bx.new W1 25 _)
  have HX5 : Hid (Bx V w.heap.size 25 #[.int .i64 0, .slice none 0 0, .slice none 0 0, .bool false]) := Lib.hid (by rw [← hV]; exact (HX4.out.below HB1.out).below (alloc_below W1 _))
  have HB2 : Hid (Below w.heap.size w V) := Lib.hid (by rw [← hV]; exact below_trans (below_trans HB0.out HB1.out) (alloc_below W1 _))
  have hlt7 : W1.heap.size < V.heap.size := HX7.out.lt
  have hlt4 : w.heap.size < W1.heap.size := (HX4.out.below HB1.out).lt
  rw [hV]
  clear hV r1 r2 HX4 HB0 HB1
  generalize W1.heap.size = r7 at *
  go_wp2_with fail
  go_loopw [8] (fun i wr => ∃ (k : Nat) (v : Value), k ≤ m ∧ i = .int .i64 k ∧ Hid (Bx wr r7 25 #[.int .i64 (s : Int), v, .slice none 0 0, .bool false]) ∧ Hid (Bx wr w.heap.size 25 #[.int .i64 0, .slice none 0 0, .slice none 0 0, .bool false]) ∧ Hid (wr.ownsRow V.heap.size 9 1 v k (List.replicate k (.string z))) ∧ V.heap.size ≤ wr.heap.size ∧ Hid (Below w.heap.size w wr)) (fun i _ => m - (intOf i).toNat)
  case atStart => exact ⟨0, _, Nat.zero_le _, rfl, HX7, HX5, Lib.hid (World.ownsRow_nil _ _ _ _), Nat.le_refl _, HB2⟩
  case round =>
    rename World => wr
    obtain ⟨k, v, hk, rfl, hx7, hx4, hown, hvs, hB⟩ := hrel
    by_cases hlt : k < m
    · have y1 := hx7.out.cell 1 (v := v) rfl
      have lt3 := hown.out.lt
      have hR := Lib.hid (fun (v' : Value) (w4 : World) (h : w4.ownsRow V.heap.size 9 1 v' (k + 1) (List.replicate k (Value.string z) ++ [.string z])) => by rw [← List.replicate_succ'] at h; exact h)
      go_wp2_with (
        at_builtin
        refine wpList_append_own _ rfl _ _ 22 rfl V.heap.size 9 i0 (.string ⟨#[]⟩) 1 16 Try.underlying22 HI.out HI0.out HI1.out HI2.out rfl (by decide) _ k _ rfl (hown.out.alloc _) ⟨wr.heap.size, 0, none⟩ 1 1 [.string z] rfl rfl (cells_new wr #[.string z] 9) (by simp [Value.oneCell']) (by unfold maxLen; omega) (by omega) (by simp; omega) ?_
        intro v' w4 hown' hgrow _
        obtain ⟨A4, c4, rfl⟩ := own_slice hown'
        have HO4 := Lib.hid (hR.out _ w4 hown')
        have x7 : Bx w4 r7 25 #[.int .i64 (s : Int), v, .slice none 0 0, .bool false] := (hgrow.block r7 (by simp; omega) (fun hc => by have := (lt3 _ hc.symm).1; omega)).trans (hx7.out.below (alloc_below wr _))
        have x4 : Bx w4 w.heap.size 25 #[.int .i64 0, .slice none 0 0, .slice none 0 0, .bool false] := (hgrow.block w.heap.size (by simp; omega) (fun hc => by have := (lt3 _ hc.symm).1; omega)).trans (hx4.out.below (alloc_below wr _))
        have HX8 := Lib.hid (x7.set 1 (.slice A4 (k + 1) c4))
        have HX9 := Lib.hid (x4.other (a := ⟨r7, 1, none⟩) (by simp; omega) (.slice A4 (k + 1) c4))
        have HO5 := Lib.hid (own_other HO4.out (a := ⟨r7, 1, none⟩) (by simp; omega) (.slice A4 (k + 1) c4))
        have y5 := x7.cell 1 (v := v) rfl
        have y6 := x7.frozen 1
        have hb4 : Below w.heap.size w w4 := (below_trans hB.out (alloc_below wr _)).grown hgrow (by have := hB.out.size; simp; omega) (fun g hg => by have := (lt3 g hg).1; omega)
        have HB5 := Lib.hid (hb4.setCell (p := ⟨r7, 1, none⟩) (by simp; omega) (.slice A4 (k + 1) c4))
        have hsz : V.heap.size ≤ w4.heap.size := by have := hgrow.size; simp at this; omega
        clear hown' hgrow x7 x4 hb4
        skip)
      go_roundw
      case rel => exact ⟨k + 1, .slice A4 (k + 1) c4, by omega, by go_num, HX8, HX9, HO5, by simpa using hsz, HB5⟩
      case measure => simp [intOf]; omega
    · obtain rfl : m = k := by omega
      have hown2 := hown.out
      obtain ⟨A9, c9, rfl⟩ := own_slice hown2
      rw [rep_cells] at hown2
      have hrow := rowT_own hown2 (List.length_replicate).symm
      have hn9 := newA_own (w := V) hown2
      obtain ⟨x0, x1, x2, x3⟩ := hx7.out.four
      obtain ⟨y0, y1, y2, y3⟩ := hx4.out.four
      have y4 := hx4.out.frozen
      have HRR := Lib.hid (hrow.four (r := w.heap.size) (hn9.ne (by omega)) (.int .i64 (s : Int)) (.slice A9 m c9) (.slice none 0 0) (.bool false))
      have HBB := Lib.hid (four_below (r := w.heap.size) hB.out (Nat.le_refl _) (.int .i64 (s : Int)) (.slice A9 m c9) (.slice none 0 0) (.bool false))
      clear hown hown2 hrow hn9 hB hx7 hx4
      go_wp2_with fail
      exact bodyPost_ret (v := .tuple #[.agg #[.int .i64 (s : Int), .slice A9 m c9, .slice none 0 0, .bool false], .int .i64 0]) (by simp [results, Try.results12, go_sem, *]) rfl ⟨A9, c9, rfl, HRR.out, HBB.out⟩
end Go.Proofs.Ytpkoonokagchgaa
