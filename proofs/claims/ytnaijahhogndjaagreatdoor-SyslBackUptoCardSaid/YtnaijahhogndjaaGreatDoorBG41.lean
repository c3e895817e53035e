/- What sysl.origin answers of a number's own decimal. Condition: below a thousand; the table of powers stands. -/
import Derived.Test.YtnaijahhogndjaaGreatDoorBG9
import Derived.Test.YtnaijahhogndjaaGreatDoorBG28
namespace Go.Proofs.YtnaijahhogndjaaGreatDoor
open Go.ChangeShapes Go.WideShapes Go.ChangeAt Go.RowKit

def dec3 (n : Nat) : List UInt8 := if n < 10 then [UInt8.ofNat (48 + n)] else if n < 100 then [UInt8.ofNat (48 + n / 10), UInt8.ofNat (48 + n % 10)] else [UInt8.ofNat (48 + n / 100), UInt8.ofNat (48 + n / 10 % 10), UInt8.ofNat (48 + n % 10)]
theorem dec3_eq (n : Nat) (h : n < 1000) : Lib.decDigits n = dec3 n := by
  unfold dec3
  split
  · rename_i h1; exact Lib.decDigits_one h1
  · rename_i h1
    split
    · rename_i h2; exact Lib.decDigits_two h1 h2
    · rename_i h2
      rw [Lib.decDigits, dif_neg h1, Lib.decDigits_two (by omega) (by omega), Nat.div_div_eq_div_mul]
      rfl
theorem atoi_dec3 : ∀ n : Fin 1000, Lib.atoi (dec3 n.val) = some (n.val : Int) := by decide +kernel
theorem atoi_dec (n : Nat) (h : n < 1000) : Lib.atoi (Lib.decDigits n) = some (n : Int) := by
  rw [dec3_eq n h]; exact atoi_dec3 ⟨n, h⟩
set_option maxHeartbeats 1000000 in
set_option maxRecDepth 100000 in
theorem origin_dec (n : Nat) (w : World) (h : n < 1000) (hP : Cal.Pow w) : Calls Tryz.prog 56 #[.string (bytes (Lib.decDigits n))] w fun e w' => e = .returned (.tuple #[.int .i64 ((n : Int) / 8), .int .i64 ((n : Int) % 8), .bool true]) ∧ Below w.heap.size w w' := by
  have hl := dec_len n h
  have HA := Lib.hid (Tryz.strconv_Atoi (bytes (Lib.decDigits n)) n (by rw [bytes_size]; omega) (by rw [bytes_list]; exact atoi_dec n h) w)
  have HI := Lib.hid (fun W (hW : Cal.Pow W) => Tryz.strconv_Itoa n (by omega) (by omega) W hW.2)
  have hit : Lib.itoa (n : Int) = Lib.decDigits n := by
    unfold Lib.itoa
    rw [if_neg (by omega), Int.toNat_natCast]
  rw [hit] at HI
  obtain ⟨D, hD⟩ : ∃ D, bytes (Lib.decDigits n) = D := ⟨_, rfl⟩
  have HI2 := Lib.hid (fun W (hW : Cal.Pow W) => show Calls Tryz.prog 26 #[.int .i64 n] W fun e w' => e = .returned (.string D) ∧ Below W.heap.size W w' from ((HI.out) W hW).mono fun e w' ⟨h1, k, os, h2⟩ => ⟨by rw [h1, ← hD]; rfl, by rw [h2]; exact Cal.grown_below W k os⟩)
  rw [hD] at HA ⊢
  have hq : (D.toList == D.toList) = true := beq_self_eq_true _
  have hp := Lib.hid hP
  clear HI hit hl hD hP
  go_enter Tryz.func56, Tryz.ntmps56
  go_wp2_with fail
  refine HA.out.mono ?_
  rintro e w2 ⟨rfl, t, rfl⟩
  have hb := bytesWorld_below w 5 t
  have hp2 := hp.out.below hb
  generalize Lib.bytesWorld w 5 t = w2 at hb hp2 ⊢
  go_wp2_with fail
  refine (HI2.out _ hp2).mono ?_
  rintro e w3 ⟨rfl, hb3⟩
  have B3 := hb.trans (hb3.mono hb.size)
  clear hb hb3 hp2
  go_wp2
  refine bodyPost_ret (v := .tuple #[.int .i64 ((n : Int) / 8), .int .i64 ((n : Int) % 8), .bool true]) (by simp [results, Tryz.results56, go_sem]) rfl ⟨rfl, B3⟩
end Go.Proofs.YtnaijahhogndjaaGreatDoor
