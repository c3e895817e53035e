/- What the document's examples ask ('shown') holds: Pad of 0 is the byte 128 and 63 bytes of 0; Turn turns a word. No conditions. -/
import Derived.Test.YtgoodhiclkbclaaRRRRRows
import Derived.Test.YtgoodhiclkbclaaRRRRBits
import Derived.WalkKit
import Derived.ProofKit
import Derived.Deep.WholeRow
import Derived.Laws.BytesArg
namespace Go.Proofs.YtgoodhiclkbclaaRRRR
open Go.ChangeShapes Go.WideShapes Go.ChangeAt Go.RowKit

/-! ### Pad of 0 -/
def z72 : Array Value := Array.replicate 72 (.int .u8 0)
def p72 : Array Value := z72.setIfInBounds 0 (.int .u8 128)
def padNums : List Int := 128 :: List.replicate 63 0
def padText : ByteArray := strOfNums padNums
theorem padText_size : padText.size = 64 := rfl
theorem zero41 : ∀ w, (zeroValue 41).run Try.prog w = .ok (.agg z72) w := (zero_of_info (n := 72) (by kernel_rfl)).1

theorem p72_keeps : ∀ k : Nat, k < 8 → p72.setIfInBounds (63 - k) (.int .u8 0) = p72
  | 0, _ => rfl | 1, _ => rfl | 2, _ => rfl | 3, _ => rfl | 4, _ => rfl | 5, _ => rfl | 6, _ => rfl | 7, _ => rfl
  | k + 8, h => absurd h (by omega)
theorem p72_at : ∀ k : Nat, k < 8 → p72[63 - k]? = some (.int .u8 0)
  | 0, _ => rfl | 1, _ => rfl | 2, _ => rfl | 3, _ => rfl | 4, _ => rfl | 5, _ => rfl | 6, _ => rfl | 7, _ => rfl
  | k + 8, h => absurd h (by omega)
theorem p72_cells (i : Nat) (h : i < 64) : p72[i]? = some (.int .u8 (padNums.getD i 0)) := by
  have e : p72 = ((padNums ++ List.replicate 8 0).map (Value.int .u8)).toArray := rfl
  have hl : padNums.length = 64 := rfl
  rw [e, List.getElem?_toArray, List.getElem?_map, List.getElem?_append_left (by omega), List.getElem?_eq_getElem (by omega)]
  simp [List.getD, List.getElem?_eq_getElem (show i < padNums.length by omega)]

theorem pad_run (w : World) : (convert 38 9 (.slice (some ⟨w.heap.size, 0, none⟩) 64 72)).run Try.prog (w.alloc (.cells p72 41)) = .ok (.string padText) (w.alloc (.cells p72 41)) :=
  run_convert_bytes_arg _ 38 5 Try.underlying38 Try.underlying5 _ 0 64 72 padNums rfl
    (fun i hi => by rw [cell_of_row _ _ _ p72 41 (0, 0) (heap_alloc_last w _), Nat.zero_add]; exact p72_cells i hi) 9 Try.underlying9

theorem pad_zero (w : World) :
    Calls Try.prog 10 #[.int .u64 0] w fun e w' => e = .returned (.string padText) ∧ w' = w.alloc (.cells p72 41) := by
  have hz := zero41
  have h0 : z72[0]? = some (.int .u8 0) := rfl
  have hne : ¬ z72 = #[] := by decide
  have hp : z72.setIfInBounds 0 (.int .u8 128) = p72 := rfl
  have hconv := pad_run w
  go_enter Try.func10, Try.ntmps10
  go_wp2
  go_loop [18] (fun i => ∃ k : Nat, k ≤ 8 ∧ i = .int .i64 k) (fun i => 8 - (intOf i).toNat)
  case atStart => exact ⟨0, by omega, rfl⟩
  case round =>
    obtain ⟨k, hk, rfl⟩ := hrel
    by_cases hlt : k < 8
    · have hs := p72_keeps k hlt
      have hc := p72_at k hlt
      have hn : ((63 : Int) - k).toNat = 63 - k := by omega
      go_wp2
      go_round
      case rel => exact ⟨k + 1, by omega, by go_num⟩
      case measure => simp [intOf]; omega
    · obtain rfl : k = 8 := by omega
      go_wp2
      go_ret
      exact ⟨rfl, rfl⟩

/-! ### Turn -/
theorem turn_any (a n : Int) (w : World) (ha : 0 ≤ a) (ha2 : a < 4294967296) :
    Calls Try.prog 7 #[.int .u32 a, .int .i64 n] w fun e w' => e = .returned (.int .u32 (rot a n)) ∧ w = w' := by
  have hr := and31 n
  have h := or_rot a (n % 32) ha ha2 (by omega) (by omega)
  obtain ⟨r, hr0, hr1, he⟩ : ∃ r : Int, 0 ≤ r ∧ r < 32 ∧ n % 32 = r := ⟨n % 32, by omega, by omega, rfl⟩
  have hrot : rot a n = (((BitVec.ofInt 32 a).rotateRight r.toNat).toNat : Int) := by unfold rot rotb; rw [he]
  rw [hrot]
  rw [he] at hr h
  clear hrot he
  have H : Hid (bits .or .u32 (a / 2 ^ r.toNat) (a * 2 ^ (32 - r).toNat % 4294967296) = (((BitVec.ofInt 32 a).rotateRight r.toNat).toNat : Int)) := h
  clear h
  go_enter Try.func7, Try.ntmps7
  go_wp2
  go_ret
  refine ⟨?_, rfl⟩
  show Ending.returned (.int .u32 (bits .or .u32 (a / 2 ^ r.toNat) (a * 2 ^ (32 - r).toNat % 4294967296))) = _
  rw [H.out]

/-! ### the document's examples -/
theorem shown_at (w : World) : Calls Try.prog 6 #[] w fun e w' => e = .returned (.bool true) ∧ w' = w.alloc (.cells p72 41) := by
  have hs := padText_size
  have hr : rot 1 1 = 2147483648 := by decide
  have h0 : ((padText[0]'(by rw [padText_size]; omega)).toNat : Int) = 128 := rfl
  have h63 : ((padText[63]'(by rw [padText_size]; omega)).toNat : Int) = 0 := rfl
  go_enter Try.func6, Try.ntmps6
  go_wp2_with (first
    | (go_at_call 10; refine (pad_zero _).mono ?_; rintro e w' ⟨rfl, rfl⟩)
    | (go_at_call 7; refine (turn_any _ _ _ (by omega) (by omega)).mono ?_; rintro e w' ⟨rfl, rfl⟩))
  go_ret
  exact ⟨rfl, rfl⟩
theorem shown_any (w : World) : Calls Try.prog 6 #[] w fun e w' => e = .returned (.bool true) ∧ Below w.heap.size w w' :=
  (shown_at w).mono fun _ _ ⟨he, hw⟩ => ⟨he, hw ▸ (Below.refl _ _).alloc (Nat.le_refl _) _⟩
theorem shown_grown (w : World) : Calls Try.prog 6 #[] w fun e w' => e = .returned (.bool true) ∧ Grown w w' :=
  (shown_at w).mono fun _ _ ⟨he, hw⟩ => ⟨he, hw ▸ Grown.alloc (Grown.refl _) _ _⟩
end Go.Proofs.YtgoodhiclkbclaaRRRR
