/-
  SyslValues returns true for every two texts: a value's text has as many bytes more as it has marks; two values have one text just if they are the same; it is parsed as the value, if that is valid.
  Conditions: the one of the given statement (what is read holds at most 1048576 values and letters together); the listed variables stand as the program's text lays them (the card ties them).
-/
import Derived.Test.YtnaijahhogndjaaGreatDoorValText
import Derived.Test.YtnaijahhogndjaaGreatDoorRefUtf8
import Derived.Test.YtnaijahhogndjaaGreatDoorShown
namespace Go.Proofs.YtnaijahhogndjaaGreatDoor.syslValues
open Go.ChangeShapes Go.WideShapes Go.ChangeAt Go.RowKit

theorem filter_take {l : List UInt8} {k : Nat} {c : UInt8} (h : l[k]? = some c) : ((l.take (k + 1)).filter marked).length = ((l.take k).filter marked).length + if marked c = true then 1 else 0 := by
  obtain ⟨hk, hx⟩ := List.getElem?_eq_some_iff.1 h
  rw [List.take_succ_eq_append_getElem hk, List.filter_append, List.length_append, hx]
  congr 1
  by_cases hm : marked c = true
  · simp [hm]
  · simp [hm]
theorem filter_le (l : List UInt8) (k : Nat) : ((l.take k).filter marked).length ≤ k := Nat.le_trans (List.length_filter_le _ _) (by rw [List.length_take]; omega)
theorem bytes_append (l r : List UInt8) : bytes l ++ bytes r = bytes (l ++ r) := by
  apply ByteArray.ext
  simp [bytes]
theorem bytes_inj {l r : List UInt8} : bytes l = bytes r ↔ l = r := ⟨fun h => by have := congrArg (fun s : ByteArray => s.data.toList) h; simpa [bytes] using this, fun h => by rw [h]⟩
theorem conv_quote (W : World) : (convert 47 9 (.slice (some ⟨W.heap.size, 0, none⟩) 1 1)).run Tryz.prog (W.alloc (.cells #[.int .u8 34] 5)) = .ok (.string (bytes [34])) (W.alloc (.cells #[.int .u8 34] 5)) :=
  convert_row (W := W.alloc (.cells #[.int .u8 34] 5)) (base := W.heap.size) (l := [34]) (World.ownsRow_lit W #[.int .u8 34] 1 (Nat.le_refl _) (by decide) rfl)
set_option maxHeartbeats 8000000 in
set_option maxRecDepth 100000 in
theorem walk (a b : ByteArray) (w : World) (hS : Std w) (hm : Max w) (ha : a.size ≤ 1048576) (hb : b.size ≤ 1048576) :
    Calls Tryz.prog 6 #[.string a, .string b] w fun e w' => e = .returned (.bool true) ∧ Below w.heap.size w w' := by
  have hln : a.data.toList.length = a.size := list_size a
  have HLN := Lib.hid hln
  have hcnt := valueL_count a.data.toList
  rw [hln] at hcnt
  have hb2 := (valueL_length b.data.toList).2
  have ha2 := (valueL_length a.data.toList).2
  rw [list_size] at hb2 ha2
  have HX := Lib.hid (fun W => value_any a W (by omega))
  have HY := Lib.hid (fun W => value_any b W (by omega))
  obtain ⟨N, hN⟩ : ∃ N, (a.data.toList.filter marked).length = N := ⟨_, rfl⟩
  rw [hN] at hcnt
  have HN := Lib.hid hN
  clear hln hN
  go_enter Tryz.func6, Tryz.ntmps6
  go_wp2_with fail
  refine (shown_any _ hS hm).mono ?_
  rintro r w1 ⟨rfl, hb1⟩
  have hS1 := hS.below hb1
  have hm1 := hm.below hb1
  clear hS hm
  have HB1 := Lib.hid hb1
  clear hb1
  go_wp2
  go_loop [6, 7] (fun n i => ∃ k : Nat, k ≤ a.size ∧ i = .int .i64 k ∧ ∃ m : Nat, n = .int .i64 m ∧ m ≤ k ∧ Hid (m = ((a.data.toList.take k).filter marked).length)) (fun _ i => a.size - (intOf i).toNat)
  case atStart => exact ⟨0, by omega, rfl, 0, rfl, by omega, Lib.hid rfl⟩
  case round =>
    obtain ⟨k, hk, rfl, m, rfl, hmk, HM⟩ := hrel
    by_cases hlt : k < a.size
    · obtain ⟨c, hc, hat⟩ := byte_at a k hlt
      have hf := filter_take hc
      rw [← HM.out] at hf
      clear hc
      by_cases hmk2 : marked c = true
      · rw [if_pos hmk2] at hf
        have HF := Lib.hid hf
        clear hf
        rcases (marked_iff c).1 hmk2 with rfl | rfl | rfl
        · rw [show (((34 : UInt8).toNat : Nat) : Int) = 34 from rfl] at hat
          go_wp2
          go_round
          case rel => exact ⟨k + 1, by omega, by go_num, m + 1, by go_num, by omega, Lib.hid HF.out.symm⟩
          case measure => simp [intOf]; omega
        · rw [show (((92 : UInt8).toNat : Nat) : Int) = 92 from rfl] at hat
          go_wp2
          go_round
          case rel => exact ⟨k + 1, by omega, by go_num, m + 1, by go_num, by omega, Lib.hid HF.out.symm⟩
          case measure => simp [intOf]; omega
        · rw [show (((93 : UInt8).toNat : Nat) : Int) = 93 from rfl] at hat
          go_wp2
          go_round
          case rel => exact ⟨k + 1, by omega, by go_num, m + 1, by go_num, by omega, Lib.hid HF.out.symm⟩
          case measure => simp [intOf]; omega
      · rw [if_neg hmk2, Nat.add_zero] at hf
        have HF := Lib.hid hf
        have hno := fun h => hmk2 ((marked_iff c).2 h)
        have hc256 := c.toNat_lt
        have q34 : (((c.toNat : Nat) : Int) == 34) = false := beq_eq_false_iff_ne.2 fun h => hno (.inl (u8_eq (n := 34) (by omega) (by omega)))
        have q92 : (((c.toNat : Nat) : Int) == 92) = false := beq_eq_false_iff_ne.2 fun h => hno (.inr (.inl (u8_eq (n := 92) (by omega) (by omega))))
        have q93 : (((c.toNat : Nat) : Int) == 93) = false := beq_eq_false_iff_ne.2 fun h => hno (.inr (.inr (u8_eq (n := 93) (by omega) (by omega))))
        clear hf hno hmk2
        go_wp2
        go_round
        case rel => exact ⟨k + 1, by omega, by go_num, m, rfl, by omega, Lib.hid HF.out.symm⟩
        case measure => simp [intOf]; omega
    · obtain rfl : k = a.size := by omega
      obtain rfl : m = N := by
        have h := HM.out
        rw [take_all, HN.out] at h
        exact h
      clear hlt hk
      go_wp2_with fail
      refine (HX.out _).mono ?_
      rintro r w2 ⟨rfl, hb2'⟩
      go_wp2_with fail
      refine (HY.out _).mono ?_
      rintro r w3 ⟨rfl, hb3⟩
      have hB3 := hb2'.trans (hb3.mono hb2'.size)
      have hS3 := hS1.below hB3
      have hm3 := hm1.below hB3
      have HB3 := Lib.hid hB3
      clear hb2' hb3 hB3 hS1 hm1
      have hT : ((((⟨#[60, 48, 62, 49, 32, 45, 32, 45, 32, 45, 32, 45, 32, 45, 32, 91, 105, 32, 110, 61]⟩ : ByteArray) ++ bytes [34]) ++ bytes (valueL a.data.toList)) ++ bytes [34]) ++ (⟨#[93]⟩ : ByteArray) = bytes (valT a) := by
        show ((((bytes _) ++ _) ++ _) ++ _) ++ bytes [93] = _
        rw [bytes_append, bytes_append, bytes_append, bytes_append, valT_eq]
        simp
      obtain ⟨X, hX⟩ : ∃ X, bytes (valueL a.data.toList) = X := ⟨_, rfl⟩
      obtain ⟨Y, hY⟩ : ∃ Y, bytes (valueL b.data.toList) = Y := ⟨_, rfl⟩
      have hxz : X.size = a.size + m := by rw [← hX, bytes_size, hcnt]
      obtain ⟨d, hd⟩ : ∃ d, decide (a = b) = d := ⟨_, rfl⟩
      have hda : (a.toList == b.toList) = d := by rw [eq_text, hd]
      have hdx : (X.toList == Y.toList) = d := by
        rw [eq_text, ← hd, ← hX, ← hY]
        apply decide_eq_decide.2
        rw [bytes_inj, valueL_inj]
        exact ⟨fun h => by rw [← bytes_self a, ← bytes_self b, h], fun h => by rw [h]⟩
      have hne : (((X.size : Nat) : Int) != ((a.size : Int) + (m : Int))) = false := by rw [hxz]; simp
      rw [hX] at hT ⊢
      rw [hY]
      clear hX hY hd
      have hc1 := conv_quote w3
      have hc2 := conv_quote (w3.alloc (.cells #[.int .u8 34] 5))
      rw [show (w3.alloc (.cells #[.int .u8 34] 5)).heap.size = w3.heap.size + 1 by simp] at hc2
      have z1 : ¬ 9223372036854775807 < (⟨#[60, 48, 62, 49, 32, 45, 32, 45, 32, 45, 32, 45, 32, 45, 32, 91, 105, 32, 110, 61]⟩ : ByteArray).size + (bytes [34]).size := by decide
      have z2 : ¬ 9223372036854775807 < ((⟨#[60, 48, 62, 49, 32, 45, 32, 45, 32, 45, 32, 45, 32, 45, 32, 91, 105, 32, 110, 61]⟩ : ByteArray) ++ bytes [34]).size + X.size := by
        rw [ByteArray.size_append, show (⟨#[60, 48, 62, 49, 32, 45, 32, 45, 32, 45, 32, 45, 32, 45, 32, 91, 105, 32, 110, 61]⟩ : ByteArray).size = 20 from rfl, bytes_size]; simp; omega
      have z3 : ¬ 9223372036854775807 < (((⟨#[60, 48, 62, 49, 32, 45, 32, 45, 32, 45, 32, 45, 32, 45, 32, 91, 105, 32, 110, 61]⟩ : ByteArray) ++ bytes [34]) ++ X).size + (bytes [34]).size := by
        rw [ByteArray.size_append, ByteArray.size_append, show (⟨#[60, 48, 62, 49, 32, 45, 32, 45, 32, 45, 32, 45, 32, 45, 32, 91, 105, 32, 110, 61]⟩ : ByteArray).size = 20 from rfl, bytes_size]; simp; omega
      have z4 : ¬ 9223372036854775807 < ((((⟨#[60, 48, 62, 49, 32, 45, 32, 45, 32, 45, 32, 45, 32, 45, 32, 91, 105, 32, 110, 61]⟩ : ByteArray) ++ bytes [34]) ++ X) ++ bytes [34]).size + (⟨#[93]⟩ : ByteArray).size := by
        rw [ByteArray.size_append, ByteArray.size_append, ByteArray.size_append, show (⟨#[60, 48, 62, 49, 32, 45, 32, 45, 32, 45, 32, 45, 32, 45, 32, 91, 105, 32, 110, 61]⟩ : ByteArray).size = 20 from rfl, show (⟨#[93]⟩ : ByteArray).size = 1 from rfl, bytes_size]; simp; omega
      have HTT := Lib.hid hT
      clear hT
      have hb4 : Below w3.heap.size w3 ((w3.alloc (.cells #[.int .u8 34] 5)).alloc (.cells #[.int .u8 34] 5)) := ((Below.refl _ _).alloc (Nat.le_refl _) _).alloc (by simp) _
      have HS4 := Lib.hid (hS3.below hb4)
      have HM4 := Lib.hid (hm3.below hb4)
      have HW3 := Lib.hid (HB1.out.trans (HB3.out.mono HB1.out.size))
      have HB4 := Lib.hid (HW3.out.trans (hb4.mono HW3.out.size))
      have HU := Lib.hid (fun W => refUtf8_any a W (by omega))
      have haa : (a.toList == a.toList) = true := beq_self_eq_true _
      clear hb4 hS3 hm3
      by_cases hv : Lib.validD a.data.toList = true
      · have HV := Lib.hid hv
        rw [hv] at HU
        clear hv
        cases d with
        | false =>
          go_wp2_with fail
          rw [HTT.out]
          refine (val_good a _ HS4.out HM4.out ha HV.out).mono ?_
          rintro r w4 ⟨la, lc, rfl, hE, hB⟩
          have HB5 := Lib.hid (HB4.out.trans (hB.mono HB4.out.size))
          have hb5 : Below w4.heap.size w4 (w4.alloc (.cells #[.int .i64 0, .int .i64 0, .bool false, .int .i64 0, .string (bytes []), .string (bytes []), .string (bytes []), .string (bytes []), .slice la 1 lc, .string (bytes [])] 24)) := (Below.refl _ _).alloc (Nat.le_refl _) _
          have HG := Lib.hid (get_any (g := 0) (f := 0) (a := 0) (t := false) (ho := bytes []) (ap := bytes []) (pr := bytes []) (eid := bytes []) (tx := bytes []) (oneE a) la lc (bytes [105]) (bytes [110]) _ (hE.below hb5) (one_fits a ha))
          rw [one_get] at HG
          have HB6 := Lib.hid (HB5.out.trans (hb5.mono HB5.out.size))
          clear hE hB hb5
          go_wp2_with fail
          refine (HU.out _).mono ?_
          rintro r w5 ⟨rfl, rfl⟩
          go_wp2_with fail
          refine HG.out.mono ?_
          rintro r w6 ⟨rfl, hb6⟩
          have HB7 := Lib.hid (HB6.out.trans (hb6.mono HB6.out.size))
          clear hb6
          go_wp2
          go_ret
          exact ⟨rfl, HB7.out⟩
        | true =>
          go_wp2_with fail
          rw [HTT.out]
          refine (val_good a _ HS4.out HM4.out ha HV.out).mono ?_
          rintro r w4 ⟨la, lc, rfl, hE, hB⟩
          have HB5 := Lib.hid (HB4.out.trans (hB.mono HB4.out.size))
          have hb5 : Below w4.heap.size w4 (w4.alloc (.cells #[.int .i64 0, .int .i64 0, .bool false, .int .i64 0, .string (bytes []), .string (bytes []), .string (bytes []), .string (bytes []), .slice la 1 lc, .string (bytes [])] 24)) := (Below.refl _ _).alloc (Nat.le_refl _) _
          have HG := Lib.hid (get_any (g := 0) (f := 0) (a := 0) (t := false) (ho := bytes []) (ap := bytes []) (pr := bytes []) (eid := bytes []) (tx := bytes []) (oneE a) la lc (bytes [105]) (bytes [110]) _ (hE.below hb5) (one_fits a ha))
          rw [one_get] at HG
          have HB6 := Lib.hid (HB5.out.trans (hb5.mono HB5.out.size))
          clear hE hB hb5
          go_wp2_with fail
          refine (HU.out _).mono ?_
          rintro r w5 ⟨rfl, rfl⟩
          go_wp2_with fail
          refine HG.out.mono ?_
          rintro r w6 ⟨rfl, hb6⟩
          have HB7 := Lib.hid (HB6.out.trans (hb6.mono HB6.out.size))
          clear hb6
          go_wp2
          go_ret
          exact ⟨rfl, HB7.out⟩
      · have hf : Lib.validD a.data.toList = false := by simpa using hv
        have HV := Lib.hid hf
        rw [hf] at HU
        clear hv hf
        cases d with
        | false =>
          go_wp2_with fail
          rw [HTT.out]
          refine (val_bad a _ HS4.out HM4.out ha HV.out).mono ?_
          rintro r w4 ⟨rfl, hB⟩
          have HB5 := Lib.hid (HB4.out.trans (hB.mono HB4.out.size))
          clear hB
          go_wp2_with fail
          refine (HU.out _).mono ?_
          rintro r w5 ⟨rfl, rfl⟩
          go_wp2
          go_ret
          exact ⟨rfl, HB5.out.alloc HB5.out.size _⟩
        | true =>
          go_wp2_with fail
          rw [HTT.out]
          refine (val_bad a _ HS4.out HM4.out ha HV.out).mono ?_
          rintro r w4 ⟨rfl, hB⟩
          have HB5 := Lib.hid (HB4.out.trans (hB.mono HB4.out.size))
          clear hB
          go_wp2_with fail
          refine (HU.out _).mono ?_
          rintro r w5 ⟨rfl, rfl⟩
          go_wp2
          go_ret
          exact ⟨rfl, HB5.out.alloc HB5.out.size _⟩
end Go.Proofs.YtnaijahhogndjaaGreatDoor.syslValues
