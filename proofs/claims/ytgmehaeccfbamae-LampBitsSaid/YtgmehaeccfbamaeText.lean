/- What the document's own Text of a hash answers: 64 bytes. -/
import Derived.Test.YtgmehaeccfbamaeShown
import Derived.Laws.AppendOwn
import Derived.Laws.OwnMore
import Derived.Laws.BytesArg
import Derived.OwnWalk
namespace Go.Proofs.Ytgmehaeccfbamae
open Go.ChangeShapes Go.WideShapes Go.ChangeAt Go.RowKit

abbrev HAt (b : Nat) (h : List UInt8) (W : World) : Prop := W.heap[b]? = some (.cells (cellsOf h) 23 (0, 0))
theorem HAt.below {b : Nat} {h : List UInt8} {W W' : World} (hh : HAt b h W) (hb : Below W.heap.size W W') : HAt b h W' :=
  (hb.block b (Array.getElem?_eq_some_iff.1 hh).1).trans hh
theorem HAt.cell {b : Nat} {h : List UInt8} {W : World} (hh : HAt b h W) {k : Nat} {c : UInt8} (hc : h[k]? = some c) : W.cell? ⟨b, k, none⟩ = some (.int .u8 ((c.toNat : Nat) : Int)) := by
  rw [cell_of_row _ _ _ (cellsOf h) 23 (0, 0) hh]; simp [cellsOf, hc]
theorem conv_one (W : World) (z : Int) : (convert 31 9 (.slice (some ⟨W.heap.size, 0, none⟩) 1 1)).run Try.prog (W.alloc (.cells #[.int .u8 z] 5)) = .ok (.string (strOfNums [z])) (W.alloc (.cells #[.int .u8 z] 5)) :=
  run_convert_bytes_arg _ 31 5 Try.underlying31 Try.underlying5 W.heap.size 0 1 1 [z] rfl (fun i hi => by
    obtain rfl : i = 0 := by omega
    rw [cell_of_row _ _ _ #[.int .u8 z] 5 (0, 0) (heap_alloc_last W _)]
    rfl) 9 Try.underlying9
theorem one_size (z : Int) : (strOfNums [z]).size = 1 := by
  have h := congrArg List.length (strOfNums_data [z])
  have e : (strOfNums [z]).data.toList.length = (strOfNums [z]).size := by rw [Array.length_toList]; rfl
  rw [e] at h
  simpa using h
set_option maxHeartbeats 8000000 in
set_option maxRecDepth 100000 in
theorem text_any (h : List UInt8) (hl : h.length = 32) (w : World) : Calls Try.prog 6 #[.agg (cellsOf h)] w fun e w' => (∃ s : ByteArray, e = .returned (.string s) ∧ s.size = 64) ∧ Below w.heap.size w w' := by
  have hsz : (cellsOf h).size = 32 := by simp [cellsOf, hl]
  have hb0 : Below w.heap.size w (w.alloc (.cells (cellsOf h) 23)) := (Below.refl _ _).alloc (Nat.le_refl _) _
  have hh0 : HAt w.heap.size h (w.alloc (.cells (cellsOf h) 23)) := heap_alloc_last w _
  go_enter Try.func6, Try.ntmps6
  go_wp2
  go_loopw [3, 4] (fun s i wr => ∃ (k : Nat) (t : ByteArray), k ≤ 32 ∧ i = .int .i64 k ∧ s = .string t ∧ t.size = 2 * k ∧ Below w.heap.size w wr ∧ HAt w.heap.size h wr) (fun _ i _ => 32 - (intOf i).toNat)
  case atStart => exact ⟨0, ⟨#[]⟩, by omega, rfl, rfl, rfl, hb0, hh0⟩
  case round =>
    obtain ⟨k, t, hk, rfl, rfl, ht, hB, hH⟩ := hrel
    by_cases hlt : k < 32
    · obtain ⟨c, hc⟩ : ∃ c, h[k]? = some c := ⟨h[k]'(by omega), List.getElem?_eq_getElem _⟩
      have hc256 := c.toNat_lt
      go_wp2
      go_loopw [3, 5] (fun s j wr => ∃ (m : Nat) (t : ByteArray), m ≤ 2 ∧ j = .int .i64 m ∧ s = .string t ∧ t.size = 2 * k + m ∧ Below w.heap.size w wr ∧ HAt w.heap.size h wr) (fun _ j _ => 2 - (intOf j).toNat)
      case atStart => exact ⟨0, t, by omega, rfl, rfl, by omega, hB, hH⟩
      case round =>
        obtain ⟨m, t2, hm, rfl, rfl, ht2, hB2, hH2⟩ := hrel
        have hcell := hH2.cell hc
        by_cases hm0 : m = 0
        · subst hm0
          by_cases hd : c.toNat / 16 ≤ 9
          · have hcv := conv_one wr (48 + ((c.toNat : Nat) : Int) / 16)
            have hz : ¬ 9223372036854775807 < t2.size + (strOfNums [48 + ((c.toNat : Nat) : Int) / 16]).size := by rw [one_size]; omega
            go_wp2
            go_roundw
            case rel => exact ⟨0 + 1, t2 ++ strOfNums [48 + ((c.toNat : Nat) : Int) / 16], by omega, by go_num, rfl, by rw [ByteArray.size_append, one_size]; omega, hB2.alloc hB2.size _, hH2.below ((Below.refl _ _).alloc (Nat.le_refl _) _)⟩
            case measure => simp [intOf]
          · have hcv := conv_one wr (97 + ((c.toNat : Nat) : Int) / 16 - 10)
            have hz : ¬ 9223372036854775807 < t2.size + (strOfNums [97 + ((c.toNat : Nat) : Int) / 16 - 10]).size := by rw [one_size]; omega
            go_wp2
            go_roundw
            case rel => exact ⟨0 + 1, t2 ++ strOfNums [97 + ((c.toNat : Nat) : Int) / 16 - 10], by omega, by go_num, rfl, by rw [ByteArray.size_append, one_size]; omega, hB2.alloc hB2.size _, hH2.below ((Below.refl _ _).alloc (Nat.le_refl _) _)⟩
            case measure => simp [intOf]
        · by_cases hm1 : m = 1
          · subst hm1
            by_cases hd : c.toNat % 16 ≤ 9
            · have hcv := conv_one wr (48 + ((c.toNat : Nat) : Int) % 16)
              have hz : ¬ 9223372036854775807 < t2.size + (strOfNums [48 + ((c.toNat : Nat) : Int) % 16]).size := by rw [one_size]; omega
              go_wp2
              go_roundw
              case rel => exact ⟨1 + 1, t2 ++ strOfNums [48 + ((c.toNat : Nat) : Int) % 16], by omega, by go_num, rfl, by rw [ByteArray.size_append, one_size]; omega, hB2.alloc hB2.size _, hH2.below ((Below.refl _ _).alloc (Nat.le_refl _) _)⟩
              case measure => simp [intOf]
            · have hcv := conv_one wr (97 + ((c.toNat : Nat) : Int) % 16 - 10)
              have hz : ¬ 9223372036854775807 < t2.size + (strOfNums [97 + ((c.toNat : Nat) : Int) % 16 - 10]).size := by rw [one_size]; omega
              go_wp2
              go_roundw
              case rel => exact ⟨1 + 1, t2 ++ strOfNums [97 + ((c.toNat : Nat) : Int) % 16 - 10], by omega, by go_num, rfl, by rw [ByteArray.size_append, one_size]; omega, hB2.alloc hB2.size _, hH2.below ((Below.refl _ _).alloc (Nat.le_refl _) _)⟩
              case measure => simp [intOf]
          · obtain rfl : m = 2 := by omega
            go_wp2
            go_roundw
            case rel => exact ⟨k + 1, t2, by omega, by go_num, rfl, by omega, hB2, hH2⟩
            case measure => simp [intOf]; omega
    · obtain rfl : k = 32 := by omega
      go_wp2
      go_ret
      exact ⟨⟨_, rfl, by omega⟩, hB⟩
end Go.Proofs.Ytgmehaeccfbamae
