/- What the closure of tag.Text lays behind a row that grows: a part's length in eight bytes, and the part. All memory that was there stays, but for the row and its variable. Condition: the row stays shorter than memory. -/
import Derived.Test.YtdfmaimeogcpdaaRRRRMarked
namespace Go.Proofs.YtdfmaimeogcpdaaRRRR
open Go.ChangeShapes Go.WideShapes Go.ChangeAt Go.RowKit

/-- A variable holds a row of the call's own, of these bytes. -/
def RowIs (W : World) (base B : Nat) (xs : List Int) : Prop :=
  ∃ g cap, Boxed W B 39 (.slice (some ⟨g, 0, none⟩) xs.length cap) ∧ RowOf W base (.slice (some ⟨g, 0, none⟩) xs.length cap) (xs.map (Value.int .u8))

theorem wrap_u64 (a : Int) (h0 : 0 ≤ a) (h1 : a < 18446744073709551616) : IntKind.u64.wrap a = a := by
  show a % 18446744073709551616 = a
  omega
theorem number8 (n : Nat) (w : World) : Calls Try.prog 12 #[.int .u64 n, .int .i64 8] w fun e w' => e = .returned (.string (strOfNums (be 8 n))) ∧ Below w.heap.size w w' := number_any n 8 w (by omega) (by omega)
theorem number4 (n : Nat) (w : World) : Calls Try.prog 12 #[.int .u64 n, .int .i64 4] w fun e w' => e = .returned (.string (strOfNums (be 4 n))) ∧ Below w.heap.size w w' := number_any n 4 w (by omega) (by omega)
theorem number1 (n : Nat) (w : World) : Calls Try.prog 12 #[.int .u64 n, .int .i64 1] w fun e w' => e = .returned (.string (strOfNums (be 1 n))) ∧ Below w.heap.size w w' := number_any n 1 w (by omega) (by omega)

theorem RowOf.form {w : World} {base : Nat} {v : Value} {xs : List Int} (h : RowOf w base v (xs.map (Value.int .u8))) : ∃ g cap L, Hid (xs.length = L) ∧ v = .slice (some ⟨g, 0, none⟩) L cap := by
  obtain ⟨g, cap, rfl⟩ := h.shape
  exact ⟨g, cap, xs.length, Lib.hid rfl, by rw [List.length_map]⟩

set_option maxHeartbeats 800000 in
theorem lay_any (p : ByteArray) (W : World) (base B : Nat) (xs : List Int) (h : RowIs W base B xs) (hB : base ≤ B) (hW : base ≤ W.heap.size) (hsz : xs.length + 8 + p.size ≤ 140737488355328) :
    Calls Try.prog 13 #[.string p, .pointer (some ⟨B, 0, none⟩)] W fun e W' => e = .returned (.tuple #[]) ∧ RowIs W' base B (xs ++ be 8 p.size ++ nums p) ∧ KeepsOthers W W' ∧ Below base W W' ∧ Spared B W W' := by
  obtain ⟨g, cap, hv, hrow⟩ := h
  obtain ⟨i0, hi, hz0, hz1, hz2⟩ := info_parts info5
  have hs8 : (strOfNums (be 8 p.size)).size = 8 := by rw [strOfNums_size, be_length]
  have hp : p.size ≤ 140737488355328 := by omega
  have hp2 : IntKind.u64.wrap ((p.size : Nat) : Int) = ((p.size : Nat) : Int) := wrap_u64 _ (by omega) (by omega)
  have hc0 : W.drew.cell? ⟨B, 0, none⟩ = some (.slice (some ⟨g, 0, none⟩) xs.length cap) := hv.cell
  go_enter Try.func13, Try.ntmps13
  go_wp2
  go_region_law (first
    | (have hr2 := hr1
       refine step_append_text rfl (.tmp 3) (.tmp 7) 39 9 rfl base i0 Try.underlying39 Try.underlying9 hi hz0 hz1 hz2 _ _ rfl hr1 _ rfl (by rw [hs8, List.length_map]; omega) (Nat.le_trans hW hb1.size) ?_
       intro v' w2 hown2 hgrow2
       rw [cells_nums, nums_strOfNums _ (be_bytes _ _), ← List.map_append] at hown2
       obtain ⟨g', cap', L, HL, rfl⟩ := hown2.form
       obtain ⟨hx1, hx2, hx3, hx4, hx5⟩ := box_step hv1 hr1 hgrow2 hown2 hB (Nat.le_trans hW hb1.size)
       have hx6 : Spared B w1 _ := Spared.step (v' := .slice (some ⟨g', 0, none⟩) L cap') hr1 hgrow2
       have hc2 := hx1.cell
       have hf2 := hx1.frozen)
    | (go_simp; go_at_call 12; try rw [hp2]
       refine (number8 p.size _).mono ?_
       rintro e w1 ⟨rfl, hb1⟩
       have hv1 := boxed_below (W := W.drew) hv hb1
       have hr1 := rowOf_below (W := W.drew) hrow hb1
       have hc1 := hv1.cell))
  all_goals
    generalize w2.setCell ⟨B, 0, none⟩ (.slice (some ⟨g', 0, none⟩) L cap') = W2 at hx2 hx3 hx4 hx5 hx6 ⊢
    have hsp : Spared B W W2 := Spared.trans (show Spared B W w1 from Spared.of_below (X := W.drew) hb1) hx6
    have hb : Below base W W2 := Below.trans (show Below base W w1 from ⟨hb1.os, hb1.tape, hb1.output, hb1.size, fun k hk => hb1.block k (Nat.lt_of_lt_of_le hk hW)⟩) hx5
    have hk : KeepsOthers W W2 := ((KeepsOthers.drew W).trans (keeps_of_below hb1)).trans hx4
    have hcc := hx2.cell
    clear hb1 hv1 hr1 hc1 hr2 hgrow2 hown2 hx1 hx4 hx5 hx6 hc2 hf2 hc0 hv hrow
    go_wp2_with (at_builtin; refine wpList_append_text rfl (.tmp 9) (.tmp 10) 39 9 rfl base i0 Try.underlying39 Try.underlying9 hi hz0 hz1 hz2 _ _ rfl hx3 _ rfl ?c2 ?c3 ?_)
    case c2 => simp only [List.length_map, List.length_append, be_length]; omega
    case c3 => exact Nat.le_trans hW hb.size
    intro v' w3 hown3 hgrow3
    rw [cells_nums, ← List.map_append, ← List.map_append, ← List.append_assoc] at hown3
    obtain ⟨g3, cap3, L3, HL3, rfl⟩ := hown3.form
    obtain ⟨hy1, hy2, hy3, hy4, hy5⟩ := box_step hx2 hx3 hgrow3 hown3 hB (Nat.le_trans hW hb.size)
    have hy6 : Spared B W2 _ := Spared.step (v' := .slice (some ⟨g3, 0, none⟩) L3 cap3) hx3 hgrow3
    have hd1 := hy1.cell
    have hd2 := hy1.frozen
    go_wp2
    go_end0
    exact ⟨rfl, ⟨g3, cap3, by rw [HL3.out]; exact hy2, by rw [HL3.out]; exact hy3⟩, hk.trans hy4, hb.trans hy5, hsp.trans hy6⟩
end Go.Proofs.YtdfmaimeogcpdaaRRRR
