/- TreeHalves, walked: every number. -/
import Derived.Test.YtpgdiaihcfnpbacLaw
namespace Go.Proofs.Ytpgdiaihcfnpbac
open Go.ChangeShapes Go.WideShapes Go.ChangeAt Go.RowKit

theorem take_succ_sum (l : List Nat) (k x : Nat) (h : l[k]? = some x) : (l.take (k + 1)).sum = (l.take k).sum + x := by
  rw [List.take_add_one, h, Option.toList_some, List.sum_append]
  simp
theorem falls_at {l : List Nat} (h : l.Pairwise (· > ·)) {j k x y : Nat} (hj : l[j]? = some y) (hk : l[k]? = some x) (hjk : j < k) : x < y := by
  obtain ⟨h1, rfl⟩ := List.getElem?_eq_some_iff.1 hk
  obtain ⟨h2, rfl⟩ := List.getElem?_eq_some_iff.1 hj
  exact List.pairwise_iff_getElem.1 h j k h2 h1 hjk

set_option maxHeartbeats 4000000 in
set_option maxRecDepth 100000 in
theorem walk (n : Int) (h : n < 9223372036854775808) (hlo : -9223372036854775808 ≤ n) (w : World) :
    Calls Try.prog 3 #[.int .i64 n] w fun e w' => e = .returned (.bool true) ∧ Below w.heap.size w w' := by
  have HSH := Lib.hid (fun w => shown_any w)
  have HHF := Lib.hid (fun w => half_any n h w)
  have HSZ := Lib.hid (fun w => sizes_any n h w)
  have HPW := Lib.hid (fun x hx => sz_pow n.toNat x hx)
  have HFL := Lib.hid (sz_falls n.toNat)
  have HSM := Lib.hid (sz_sum n.toNat)
  have HLE := Lib.hid (sz_length 63 n.toNat (by omega))
  have HTS := Lib.hid (fun k => take_sum (sz n.toNat) k)
  have HTP := Lib.hid two_pow
  have HL0 : Hid (n ≤ 0 → sz n.toNat = []) := Lib.hid fun hn => by rw [show n.toNat = 0 by omega, sz_zero]
  have HF0 : Hid (n < 2 → halfI n = 0) := Lib.hid fun hn => if_pos hn
  have HF1 : Hid (2 ≤ n → ∃ k : Nat, k < 63 ∧ halfI n = ((2 ^ k : Nat) : Int) ∧ halfI n < n ∧ n - halfI n ≤ halfI n) := Lib.hid fun hn => by
    have e : halfI n = ((hi (n.toNat - 1) : Nat) : Int) := if_neg (by omega)
    obtain ⟨h1, h2⟩ := half_ok n.toNat (by omega)
    refine ⟨(n.toNat - 1).log2, log2_lt _ 63 (by omega) (by omega), e, ?_, ?_⟩
    · rw [e]; omega
    · rw [e]; omega
  generalize sz n.toNat = L at *
  generalize halfI n = hf at *
  go_enter Try.func3, Try.ntmps3
  go_wp2_with (first
    | (go_at_call 4; refine (HSH.out _).mono ?_; rintro e w1 ⟨rfl, hb1⟩)
    | (go_at_call 5; refine (HHF.out _).mono ?_; rintro e w2 ⟨rfl, hw⟩; obtain rfl := hw.symm; clear hw)
    | (go_at_call 6; refine (HSZ.out _).mono ?_; rintro e w3 ⟨A, c, rfl, hown, hb3⟩))
  have HB3 := Lib.hid (below_trans hb1 hb3)
  have HO := Lib.hid hown
  clear hown hb1 hb3
  generalize hm : L.length = m at *
  have HM := Lib.hid hm
  clear hm
  go_loopw [6, 7] (fun s i wr => ∃ k : Nat, k ≤ m ∧ s = .int .i64 (((L.take k).sum : Nat) : Int) ∧ i = .int .i64 ((k : Nat) : Int) ∧ Below w3.heap.size w3 wr) (fun _ i _ => m - (intOf i).toNat)
  case atStart => exact ⟨0, Nat.zero_le _, by simp, rfl, Below.refl _ _⟩
  case round =>
    rename World => wr
    obtain ⟨k, hk, rfl, rfl, hB⟩ := hrel
    by_cases hlt : k < m
    · obtain ⟨x, hx⟩ : ∃ x, L[k]? = some x := ⟨_, List.getElem?_eq_getElem (by have := HM.out; omega)⟩
      obtain ⟨g, rfl, hg1, hg2⟩ := own_some HO.out (by omega)
      have c0 := row_cell HO.out hB hx hg2
      obtain ⟨j, rfl, hxn⟩ := HPW.out x (List.mem_of_getElem? hx)
      have hj : j < 63 := by
        refine Decidable.byContradiction fun hn => ?_
        have : 2 ^ 63 ≤ 2 ^ j := Nat.pow_le_pow_right (by decide) (by omega)
        omega
      have HT := Lib.hid (HTP.out j hj)
      have hsum : (L.take (k + 1)).sum = (L.take k).sum + 2 ^ j := take_succ_sum L k _ hx
      have hle1 := HTS.out (k + 1)
      have hsm := HSM.out
      have HF := Lib.hid (fun (q y : Nat) (hq : L[q]? = some y) (hqk : q < k) => falls_at HFL.out hq hx hqk)
      have hlen := HLE.out
      generalize 2 ^ j = x at *
      generalize (L.take k).sum = s at *
      rcases Nat.eq_zero_or_pos k with rfl | hk0
      · clear HF
        go_wp2_with (go_at_call 7; refine (HT.out _).mono ?_; rintro e w4 ⟨rfl, hw⟩; obtain rfl := hw.symm; clear hw)
        go_region
        go_wp2
        go_roundw
        case rel => exact ⟨0 + 1, by omega, by go_num, by go_num, hB.drew⟩
        case measure => simp [intOf]; omega
      · obtain ⟨y, hy⟩ : ∃ y, L[k - 1]? = some y := ⟨_, List.getElem?_eq_getElem (by have := HM.out; omega)⟩
        have c1 := row_cell HO.out hB hy hg2
        have hxy := HF.out (k - 1) y hy (by omega)
        clear HF
        have hd : decide (y ≤ x) = false := decide_eq_false (by omega)
        go_wp2_with (go_at_call 7; refine (HT.out _).mono ?_; rintro e w4 ⟨rfl, hw⟩; obtain rfl := hw.symm; clear hw)
        go_region
        go_wp2
        go_roundw
        case rel => exact ⟨k + 1, by omega, by go_num, by go_num, hB.drew⟩
        case measure => simp [intOf]; omega
    · obtain rfl : k = m := by omega
      have hsum : ((L.take k).sum : Nat) = n.toNat := by rw [List.take_of_length_le (by have := HM.out; omega)]; exact HSM.out
      rw [hsum]
      have BW := Lib.hid (below_trans HB3.out hB)
      by_cases h2 : n < 2
      · have e0 := HF0.out h2
        subst e0
        by_cases h1 : n < 1
        · have hk0 : k = 0 := by have h3 := HM.out; rw [HL0.out (by omega)] at h3; simpa using h3.symm
          subst hk0
          go_wp2
          go_ret
          exact ⟨rfl, BW.out⟩
        · obtain rfl : n = 1 := by omega
          go_wp2
          go_ret
          exact ⟨rfl, BW.out⟩
      · obtain ⟨j, hj, hfe, hf1, hf2⟩ := HF1.out (by omega)
        have HT := Lib.hid (HTP.out j hj)
        rw [← hfe] at HT
        have hf0 : 0 ≤ hf := by rw [hfe]; exact Int.natCast_nonneg _
        have hn2 : ((n.toNat : Nat) : Int) = n := by omega
        rw [hn2]
        clear hn2 hfe hsum
        go_wp2_with (go_at_call 7; refine (HT.out _).mono ?_; rintro e w4 ⟨rfl, hw⟩; obtain rfl := hw.symm; clear hw)
        go_ret
        exact ⟨rfl, BW.out⟩
end Go.Proofs.Ytpgdiaihcfnpbac
