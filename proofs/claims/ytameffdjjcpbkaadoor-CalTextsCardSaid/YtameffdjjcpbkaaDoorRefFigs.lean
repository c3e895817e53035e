/- What the document's own 'figures' answers: a number's last figures, so many. All memory that was there stays. -/
import Derived.Test.YtameffdjjcpbkaaDoorPrinted
import Derived.Laws.BytesArg
import Derived.Deep.WholeRow
namespace Go.Proofs.YtameffdjjcpbkaaDoor
open Go.ChangeShapes Go.WideShapes Go.ChangeAt Go.RowKit

theorem pad_cons : ∀ (j n : Nat), pad (j + 1) n = UInt8.ofNat (48 + n / 10 ^ j % 10) :: pad j n
  | 0, n => by simp [pad]
  | j + 1, n => by
    have e : pad (j + 1 + 1) n = pad (j + 1) (n / 10) ++ [UInt8.ofNat (48 + n % 10)] := rfl
    rw [e, pad_cons j (n / 10), Nat.div_div_eq_div_mul, show 10 * 10 ^ j = 10 ^ (j + 1) by rw [Nat.pow_succ]; omega]
    rfl
theorem digit_string (W : World) (x : Int) :
    (convert 68 9 (.slice (some ⟨W.heap.size, 0, none⟩) 1 1)).run Tryd.prog (W.alloc (.cells #[.int .u8 x] 5)) = .ok (.string (bytes [UInt8.ofNat x.toNat])) (W.alloc (.cells #[.int .u8 x] 5)) := by
  have h := run_convert_bytes_arg (P := Tryd.prog) (W.alloc (.cells #[.int .u8 x] 5)) 68 5 Tryd.underlying68 Tryd.underlying5 W.heap.size 0 1 1 [x] rfl
    (fun i hi => by
      obtain rfl : i = 0 := by omega
      rw [cell_of_row _ _ _ #[.int .u8 x] 5 (0, 0) (heap_alloc_last W _)]
      rfl) 9 Tryd.underlying9
  exact h
set_option maxHeartbeats 1000000 in
theorem rfigures_any (n k : Nat) (w : World) (hn : n < 1000000) (hk : k ≤ 6) :
    Calls Tryd.prog 32 #[.int .i64 n, .int .i64 k] w fun e w' => e = .returned (.string (bytes (pad k n))) ∧ Below w.heap.size w w' := by
  go_enter Tryd.func32, Tryd.ntmps32
  go_wp2
  go_loopw [0, 5, 6] (fun v t i wr => ∃ j : Nat, j ≤ k ∧ i = .int .i64 j ∧ v = .int .i64 ((n / 10 ^ j : Nat) : Int) ∧ t = .string (bytes (pad j n)) ∧ Below w.heap.size w wr) (fun _ _ i _ => k - (intOf i).toNat)
  case atStart => exact ⟨0, by omega, rfl, by simp, rfl, Below.refl _ _⟩
  case round =>
    obtain ⟨j, j1, rfl, rfl, rfl, hB⟩ := hrel
    by_cases hlt : j < k
    · have HP := Lib.hid (pad_cons j n)
      have HD := Lib.hid (show n / 10 ^ (j + 1) = n / 10 ^ j / 10 by rw [Nat.div_div_eq_div_mul, Nat.pow_succ])
      have hsz : (bytes (pad j n)).size ≤ 6 := by rw [bytes_size, pad_length]; omega
      have hv : n / 10 ^ j < 1000000 := Nat.lt_of_le_of_lt (Nat.div_le_self _ _) hn
      obtain ⟨S, hS⟩ : ∃ S, bytes (pad j n) = S := ⟨_, rfl⟩
      rw [hS] at hsz ⊢
      have HS := Lib.hid hS
      clear hS
      generalize n / 10 ^ j = V at hv HP HD ⊢
      have hdig := digit_string wr (48 + (V : Int) % 10)
      obtain ⟨C, hC⟩ : ∃ C, bytes [UInt8.ofNat (48 + (V : Int) % 10).toNat] = C := ⟨_, rfl⟩
      rw [hC] at hdig
      have hcs : C.size ≤ 1 := by rw [← hC, bytes_size]; simp
      have HC := Lib.hid hC
      clear hC
      have c1 : ¬ 9223372036854775807 < C.size + S.size := by omega
      go_wp2
      go_roundw
      case rel =>
        refine ⟨j + 1, by omega, by go_num, by rw [HD.out]; go_num, ?_, hB.alloc hB.size _⟩
        rw [HP.out, ← HC.out, ← HS.out, bytes_append, show (48 + (V : Int) % 10).toNat = 48 + V % 10 by omega]
        rfl
      case measure => simp [intOf]; omega
    · obtain rfl : j = k := by omega
      go_wp2
      go_ret
      exact ⟨rfl, hB⟩
end Go.Proofs.YtameffdjjcpbkaaDoor
