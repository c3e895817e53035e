/- The texts CalRefFigs, RefDec, one behind the other. -/
import Derived.Test.YtmmghppjhmdikaaGreatDoorAF10
import Derived.Laws.BytesArg
import Derived.Deep.WholeRow
/- What the document's own 'figures' answers: a number's last figures, so many. All memory that was there stays. -/
namespace Go.Proofs.YtmmghppjhmdikaaGreatDoor.Cal
open Go.ChangeShapes Go.WideShapes Go.ChangeAt Go.RowKit

theorem pad_cons : ∀ (j n : Nat), pad (j + 1) n = UInt8.ofNat (48 + n / 10 ^ j % 10) :: pad j n
  | 0, n => by simp [pad]
  | j + 1, n => by
    have e : pad (j + 1 + 1) n = pad (j + 1) (n / 10) ++ [UInt8.ofNat (48 + n % 10)] := rfl
    rw [e, pad_cons j (n / 10), Nat.div_div_eq_div_mul, show 10 * 10 ^ j = 10 ^ (j + 1) by rw [Nat.pow_succ]; omega]
    rfl
theorem digit_string (W : World) (x : Int) :
    (convert 65 9 (.slice (some ⟨W.heap.size, 0, none⟩) 1 1)).run Tryz.prog (W.alloc (.cells #[.int .u8 x] 5)) = .ok (.string (bytes [UInt8.ofNat x.toNat])) (W.alloc (.cells #[.int .u8 x] 5)) := by
  have h := run_convert_bytes_arg (P := Tryz.prog) (W.alloc (.cells #[.int .u8 x] 5)) 65 5 Tryz.underlying65 Tryz.underlying5 W.heap.size 0 1 1 [x] rfl
    (fun i hi => by
      obtain rfl : i = 0 := by omega
      rw [cell_of_row _ _ _ #[.int .u8 x] 5 (0, 0) (heap_alloc_last W _)]
      rfl) 9 Tryz.underlying9
  exact h
end Go.Proofs.YtmmghppjhmdikaaGreatDoor.Cal
/- What the document's own decimal answers: a number's decimal figures. Condition: below a million. -/
namespace Go.Proofs.YtmmghppjhmdikaaGreatDoor
open Go.ChangeShapes Go.WideShapes Go.ChangeAt Go.RowKit

theorem dec_step (n : Nat) (h : ¬ n < 10) : Lib.decDigits n = Lib.decDigits (n / 10) ++ [UInt8.ofNat (48 + n % 10)] := by
  rw [Lib.decDigits, dif_neg h]
theorem digits_le (n : Nat) : Lib.nDigits n ≤ n + 1 := by
  induction n using Nat.strongRecOn with
  | ind n ih =>
    by_cases h : n < 10
    · rw [Lib.nDigits_small h]; omega
    · rw [Lib.nDigits_big h]
      have := ih (n / 10) (by omega)
      omega
set_option maxRecDepth 100000 in
theorem refDec_one (n : Nat) (w : World) (h : n < 10) :
    Calls Tryz.prog 11 #[.int .i64 n] w fun e w' => e = .returned (.string (bytes (Lib.decDigits n))) ∧ Below w.heap.size w w' := by
  have hdig := Cal.digit_string w (48 + (n : Int) % 10)
  have HB := Lib.hid ((Below.refl w.heap.size w).alloc (Nat.le_refl _) (.cells #[.int .u8 (48 + (n : Int) % 10)] 5))
  go_enter Tryz.func11, Tryz.ntmps11
  go_wp2_with fail
  go_ret
  exact ⟨by rw [Lib.decDigits_one h, show 48 + n % 10 = 48 + n by omega] <;> rfl, HB.out⟩
set_option maxRecDepth 100000 in
theorem refDec_any : ∀ (k n : Nat) (w : World), n < 10 ^ k → k ≤ 6 →
    Calls Tryz.prog 11 #[.int .i64 n] w fun e w' => e = .returned (.string (bytes (Lib.decDigits n))) ∧ Below w.heap.size w w' := by
  intro k
  induction k with
  | zero =>
    intro n w hn hk
    exact refDec_one n w (by simp at hn; omega)
  | succ k ih =>
    intro n w hn hk
    by_cases h : n < 10
    · exact refDec_one n w h
    · have hdig := Cal.digit_string w (48 + (n : Int) % 10)
      have hB := (Below.refl w.heap.size w).alloc (Nat.le_refl _) (.cells #[.int .u8 (48 + (n : Int) % 10)] 5)
      have hn6 : n < 1000000 := Nat.lt_of_lt_of_le hn (Nat.pow_le_pow_right (n := 10) (by decide) hk)
      have h10 : n / 10 < 10 ^ k := by rw [Nat.div_lt_iff_lt_mul (by decide), ← Nat.pow_succ]; exact hn
      have HI := Lib.hid (fun W => by
        have := ih (n / 10) W h10 (by omega)
        rwa [show ((n / 10 : Nat) : Int) = (n : Int) / 10 from by omega] at this)
      have HS := Lib.hid (dec_step n h)
      have hlen : (bytes (Lib.decDigits (n / 10))).size ≤ 1000000 := by
        rw [bytes_size, Lib.decDigits_length]
        have := digits_le (n / 10)
        omega
      obtain ⟨D, hD⟩ : ∃ D, bytes (Lib.decDigits (n / 10)) = D := ⟨_, rfl⟩
      rw [hD] at hlen HI
      have HDD := Lib.hid hD
      have HB := Lib.hid hB
      obtain ⟨C, hC⟩ : ∃ C, Cal.bytes [UInt8.ofNat (48 + (n : Int) % 10).toNat] = C := ⟨_, rfl⟩
      rw [hC] at hdig
      have hcs : C.size ≤ 1 := by rw [← hC]; exact Nat.le_refl 1
      have HC := Lib.hid hC
      have c1 : ¬ 9223372036854775807 < D.size + C.size := by omega
      clear ih hn hB h10 hD hC
      go_enter Tryz.func11, Tryz.ntmps11
      go_wp2_with fail
      refine (HI.out _).mono ?_
      rintro e w' ⟨rfl, hb2⟩
      have B2 := HB.out.trans (hb2.mono HB.out.size)
      clear hb2
      go_wp2
      go_ret
      refine ⟨?_, B2⟩
      rw [HS.out, ← HDD.out, ← HC.out, show (48 + (n : Int) % 10).toNat = 48 + n % 10 by omega]
      exact congrArg (fun b => Ending.returned (.string b)) (Cal.bytes_append _ _)
end Go.Proofs.YtmmghppjhmdikaaGreatDoor
