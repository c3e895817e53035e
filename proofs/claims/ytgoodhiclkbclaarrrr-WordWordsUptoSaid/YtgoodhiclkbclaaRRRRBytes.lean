/- Bytes of a row of words are the words' bytes, the highest first, as a new text; all memory that was there stays. Condition: the row has fewer than 2^44 words. -/
import Derived.Test.YtgoodhiclkbclaaRRRRBase
import Derived.Test.YtgoodhiclkbclaaRRRRText
import Derived.Lib.Hide
namespace Go.Proofs.YtgoodhiclkbclaaRRRR
open Go.ChangeShapes Go.WideShapes Go.ChangeAt Go.RowKit

/-- A slice of words, as a list. -/
def RowAt (w : World) (A : Option Addr) (n : Nat) (zs : List Int) : Prop :=
  zs.length = n ∧ (∀ z ∈ zs, 0 ≤ z ∧ z < 4294967296) ∧
  (n = 0 ∨ ∃ b off, A = some ⟨b, off, none⟩ ∧ b < w.heap.size ∧ ∀ i, i < n → w.cell? ⟨b, off + i, none⟩ = some (.int .u32 (zs.getD i 0)))

theorem RowAt.below {w w' : World} {A : Option Addr} {n : Nat} {zs : List Int} (h : RowAt w A n zs) (hb : Below w.heap.size w w') : RowAt w' A n zs := by
  refine ⟨h.1, h.2.1, ?_⟩
  rcases h.2.2 with h0 | ⟨b, off, hA, hlt, hc⟩
  · exact .inl h0
  · exact .inr ⟨b, off, hA, Nat.lt_of_lt_of_le hlt hb.size, fun i hi => (hb.cell (by exact hlt)).trans (hc i hi)⟩

theorem info5 : (Try.prog.info? 5).map (fun i => (i.zero, i.size, i.bytes)) = some (some (.int .u8 0), 1, 1) := by kernel_rfl

set_option maxHeartbeats 800000 in
theorem bytes_any (A : Option Addr) (n cap : Nat) (zs : List Int) (w : World) (hr : RowAt w A n zs) (hn : n < 17592186044416) :
    Calls Try.prog 8 #[.slice A n cap] w fun e w' => e = .returned (.string (strOfNums (fours zs))) ∧ Below w.heap.size w w' := by
  obtain ⟨hl, hwf, hcell⟩ := hr
  obtain ⟨i0, hi, hz0, hz1, hz2⟩ := info_parts info5
  go_enter Try.func8, Try.ntmps8
  go_wp2_with (at_make; refine wpList_make_own _ rfl _ _ 38 rfl w.heap.size 5 i0 (.int .u8 0) 1 Try.underlying38 hi hz0 hz1 _ _ _ (4 * n) rfl rfl (by omega) ?b2 ?b3 (Nat.le_refl _) ?_)
  case b2 => rw [hz2]; omega
  case b3 => unfold maxLen; omega
  intro w0 hown0 hgrow0
  go_wp2
  go_loopw [3, 12] (fun out i wr => ∃ k : Nat, k ≤ n ∧ i = .int .i64 k ∧ out = .slice (some ⟨w.heap.size, 0, none⟩) (4 * k) (4 * n) ∧
      wr.ownsRow w.heap.size 5 1 (.slice (some ⟨w.heap.size, 0, none⟩) (4 * k) (4 * n)) (4 * k) ((fours (zs.take k)).map (Value.int .u8)) ∧ Below w.heap.size w wr)
    (fun _ i _ => n - (intOf i).toNat)
  case atStart => exact ⟨0, Nat.zero_le _, rfl, rfl, by simpa [fours] using hown0, (Below.refl _ _).grown hgrow0 (Nat.le_refl _) (fun k h => by cases h)⟩
  case round =>
    obtain ⟨k, hk, rfl, rfl, hown, hnx⟩ := hrel
    by_cases hlt : k < n
    · rcases hcell with h0 | ⟨b, off, rfl, hbl, hc⟩
      · omega
      have hck : wr.cell? ⟨b, off + k, none⟩ = some (.int .u32 (zs.getD k 0)) := (hnx.cell (by exact hbl)).trans (hc k hlt)
      have hz : 0 ≤ zs.getD k 0 ∧ zs.getD k 0 < 4294967296 := by
        have : zs.getD k 0 ∈ zs := by simp [List.getD, List.getElem?_eq_getElem (show k < zs.length by omega)]
        exact hwf _ this
      have HS := Lib.hid (fours_snoc zs k (by omega))
      generalize zs.getD k 0 = z at hck hz HS
      clear hc hwf hown0 hgrow0
      go_wp2_with (at_builtin; refine wpList_append_fits _ rfl (.tmp 16) (.tmp 28) 38 rfl w.heap.size 5 i0 1 Try.underlying38 hi hz1 w.heap.size (4 * k) (4 * n) _ rfl (hown.alloc _) ⟨wr.heap.size, 0, none⟩ 4 4 [.int .u8 (z / 16777216), .int .u8 (z / 65536 % 256), .int .u8 (z / 256 % 256), .int .u8 (z % 256)] rfl rfl ?c1 ?c2 (by omega) ?_)
      case c1 =>
        intro j u hj
        match j, hj with
        | 0, hj => simp at hj; subst hj; simp [Addr.add]
        | 1, hj => simp at hj; subst hj; simp [Addr.add]
        | 2, hj => simp at hj; subst hj; simp [Addr.add]
        | 3, hj => simp at hj; subst hj; simp [Addr.add]
        | j + 4, hj => simp at hj
      case c2 => intro u hu; simp at hu; rcases hu with rfl | rfl | rfl | rfl <;> rfl
      intro w1 hown1 hgrow1
      have e4 : fours (zs.take (k + 1)) = fours (zs.take k) ++ four z := HS.out
      have hown2 : w1.ownsRow w.heap.size 5 1 (.slice (some ⟨w.heap.size, 0, none⟩) (4 * (k + 1)) (4 * n)) (4 * (k + 1)) ((fours (zs.take (k + 1))).map (Value.int .u8)) := by
        rw [e4, List.map_append]; exact hown1
      have hb2 : Below w.heap.size w w1 := (hnx.alloc hnx.size _).grown hgrow1 (by simp; have := hnx.size; omega) (fun j hj => by cases hj; exact Nat.le_refl _)
      clear e4 hown1 hgrow1 hown HS hck
      go_wp2
      go_roundw
      case rel => exact ⟨k + 1, by omega, by go_num, rfl, hown2, hb2⟩
      case measure => simp [intOf]; omega
    · obtain rfl : k = n := by omega
      have et : zs.take k = zs := List.take_of_length_le (by omega)
      rw [et] at hown
      have hconv : (convert 38 9 (.slice (some ⟨w.heap.size, 0, none⟩) (4 * k) (4 * k))).run Try.prog wr = .ok (.string (strOfNums (fours zs))) wr :=
        run_convert_bytes_arg wr 38 5 Try.underlying38 Try.underlying5 _ 0 (4 * k) (4 * k) (fours zs) (by rw [fours_length]; omega)
          (fun i hi => by
            have hlt : i < (fours zs).length := by rw [fours_length]; omega
            rw [Nat.zero_add, hown.cellAt i (by omega), List.getElem?_map, List.getElem?_eq_getElem hlt]
            simp [List.getD, List.getElem?_eq_getElem hlt]) 9 Try.underlying9
      clear hown hwf hcell hown0 hgrow0 et
      go_wp2
      go_ret
      exact ⟨rfl, hnx⟩
end Go.Proofs.YtgoodhiclkbclaaRRRR
