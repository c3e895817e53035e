/- Words of a text of 64 bytes are its sixteen words, the highest byte first, in a new row; of any other text it tells ErrArg and no row. All memory that was there stays. Condition: the text's length fits an int. -/
import Derived.Test.YtgoodhiclkbclaaRRRRBytes
import Derived.Deep.QuietTactic
import Derived.BigQuiet
namespace Go.Proofs.YtgoodhiclkbclaaRRRR
open Go.ChangeShapes Go.WideShapes Go.ChangeAt Go.RowKit

set_option maxHeartbeats 400000 in
theorem wordAt_any (s : ByteArray) (a : Int) (w : World) (h0 : 0 ≤ a) (h1 : a + 3 < s.size) (hm : s.size ≤ 9223372036854775807) :
    Calls Try.prog 11 #[.string s, .int .i64 a] w fun e w' => e = .returned (.int .u32 (wordAt s a.toNat)) ∧ ∃ n, w' = w.drewN n := by
  have i0 : a < s.size := by omega
  have i1 : a + 1 < s.size := by omega
  have i2 : a + 2 < s.size := by omega
  have j1 : 0 ≤ a + 1 := by omega
  have j2 : 0 ≤ a + 2 := by omega
  have j3 : 0 ≤ a + 3 := by omega
  have k0 : a.toNat < s.size := by omega
  have k1 : a.toNat + 1 < s.size := by omega
  have k2 : a.toNat + 2 < s.size := by omega
  have k3 : a.toNat + 3 < s.size := by omega
  have n1 : (a + 1).toNat = a.toNat + 1 := by omega
  have n2 : (a + 2).toNat = a.toNat + 2 := by omega
  have n3 : (a + 3).toNat = a.toNat + 3 := by omega
  have e1 : IntKind.i64.wrap (a + 1) = a + 1 := IntWalk.i64_in _ (by omega)
  have e2 : IntKind.i64.wrap (a + 2) = a + 2 := IntWalk.i64_in _ (by omega)
  have e3 : IntKind.i64.wrap (a + 3) = a + 3 := IntWalk.i64_in _ (by omega)
  have H := Lib.hid (or_joined (byteAt s a.toNat) (byteAt s (a.toNat + 1)) (byteAt s (a.toNat + 2)) (byteAt s (a.toNat + 3)) (byteAt_bounds _ _) (byteAt_bounds _ _) (byteAt_bounds _ _) (byteAt_bounds _ _))
  have b0 := byteAt_lt s a.toNat k0
  have b1 := byteAt_lt s (a.toNat + 1) k1
  have b2 := byteAt_lt s (a.toNat + 2) k2
  have b3 := byteAt_lt s (a.toNat + 3) k3
  clear hm
  go_enter Try.func11, Try.ntmps11
  go_wp2
  go_quiet (fail)
  go_wp2
  go_ret
  refine ⟨?_, nq, rfl⟩
  have hj := H.out
  unfold wordAt
  rw [← hj]
  rfl

theorem words_no (s : ByteArray) (w : World) (h : s.size ≠ 64) :
    Calls Try.prog 9 #[.string s] w fun e w' => e = .returned (.tuple #[.slice none 0 0, .int .i64 1]) ∧ w = w' := by
  have hb : (((s.size : Nat) : Int) != 64) = true := by rw [bne_iff_ne]; omega
  go_enter Try.func9, Try.ntmps9
  go_wp2
  go_ret2
  exact ⟨rfl, rfl⟩

/-- The array of sixteen words, the first k of them filled in. -/
def rowTo (s : ByteArray) (k : Nat) : Array Value := ((wordsTo s k ++ List.replicate (16 - k) 0).map (Value.int .u32)).toArray
theorem rowTo_zero (s : ByteArray) : rowTo s 0 = #[.int .u32 0, .int .u32 0, .int .u32 0, .int .u32 0, .int .u32 0, .int .u32 0, .int .u32 0, .int .u32 0, .int .u32 0, .int .u32 0, .int .u32 0, .int .u32 0, .int .u32 0, .int .u32 0, .int .u32 0, .int .u32 0] := rfl
theorem rowTo_at (s : ByteArray) (k : Nat) (h : k < 16) : (rowTo s k)[k]? = some (.int .u32 0) := by
  unfold rowTo
  rw [List.getElem?_toArray, List.getElem?_map, List.getElem?_append_right (by rw [wordsTo_length]; omega), wordsTo_length, Nat.sub_self, show 16 - k = (15 - k) + 1 by omega, List.replicate_succ]
  rfl
theorem rowTo_succ (s : ByteArray) (k : Nat) (h : k < 16) : (rowTo s k).setIfInBounds k (.int .u32 (wordAt s (4 * k))) = rowTo s (k + 1) := by
  unfold rowTo
  rw [wordsTo_succ, show 16 - k = (16 - (k + 1)) + 1 by omega, List.replicate_succ]
  simp [wordsTo_length]

set_option maxHeartbeats 800000 in
theorem words_yes (s : ByteArray) (w : World) (h : s.size = 64) :
    Calls Try.prog 9 #[.string s] w fun e w' => e = .returned (.tuple #[.slice (some ⟨w.heap.size, 0, none⟩) 16 16, .int .i64 0]) ∧
      RowAt w' (some ⟨w.heap.size, 0, none⟩) 16 (wordsTo s 16) ∧ Below w.heap.size w w' := by
  have hb : (((s.size : Nat) : Int) != 64) = false := by rw [h]; rfl
  have H := Lib.hid h
  clear h
  go_enter Try.func9, Try.ntmps9
  go_wp2
  go_loopw [9] (fun i wr => ∃ k : Nat, k ≤ 16 ∧ i = .int .i64 k ∧ wr.heap[w.heap.size]? = some (.cells (rowTo s k) 39 (0, 0)) ∧ Below w.heap.size w wr)
    (fun i _ => 16 - (intOf i).toNat)
  case atStart => exact ⟨0, by omega, rfl, heap_alloc_last w _, (Below.refl _ _).alloc (Nat.le_refl _) _⟩
  case round =>
    obtain ⟨k, hk, rfl, hrow, hnx⟩ := hrel
    have hc0 := cell_of_row wr w.heap.size k (rowTo s k) 39 (0, 0) hrow
    have hf : wr.frozen? ⟨w.heap.size, k, none⟩ = false := frozen_of_row wr w.heap.size k (rowTo s k) 39 hrow
    have HR := Lib.hid hrow
    clear hrow
    by_cases hlt : k < 16
    · have hc : wr.cell? ⟨w.heap.size, k, none⟩ = some (.int .u32 0) := hc0.trans (rowTo_at s k hlt)
      clear hc0
      go_wp2_with (go_at_call 11; refine (wordAt_any s (4 * (k : Int)) _ (by omega) (by have := H.out; omega) (by have := H.out; omega)).mono ?_; rintro e w' ⟨rfl, nq, rfl⟩)
      go_roundw
      case rel =>
        refine ⟨k + 1, by omega, by go_num, ?_, ?_⟩
        · rw [← rowTo_succ s k hlt]
          exact heap_setCell_same (wr.drewN nq) w.heap.size k (rowTo s k) 39 _ HR.out
        · exact Below.setCell (show Below w.heap.size w (wr.drewN nq) from ⟨hnx.os, hnx.tape, hnx.output, hnx.size, hnx.block⟩) (Nat.le_refl _) _
      case measure => simp [intOf]; omega
    · obtain rfl : k = 16 := by omega
      clear hc0
      go_wp2
      go_ret2
      refine ⟨rfl, ⟨wordsTo_length _ _, wordsTo_bounds _ _, .inr ⟨_, 0, rfl, ?_, ?_⟩⟩, hnx⟩
      · exact (Array.getElem?_eq_some_iff.1 HR.out).1
      · intro i hi
        rw [Nat.zero_add, cell_of_row _ _ _ _ 39 (0, 0) HR.out]
        unfold rowTo
        have hl : i < (wordsTo s 16).length := by rw [wordsTo_length]; exact hi
        simp [List.getElem?_eq_getElem hl]
end Go.Proofs.YtgoodhiclkbclaaRRRR
