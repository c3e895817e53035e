/- The texts CalPrinted, TimeText, Joined, one behind the other. -/
import Derived.Test.YtnaijahhogndjaaGreatDoorPG8
import Derived.Test.YtnaijahhogndjaaGreatDoorPG4
import Derived.Test.YtnaijahhogndjaaGreatDoorPG1
import Derived.Deep.RegionHeld3
import Derived.Test.YtnaijahhogndjaaGreatDoorPG7
/- What sysl.joined and sysl.textBehind answer: the parts, one behind the other. -/
namespace Go.Proofs.YtnaijahhogndjaaGreatDoor
open Go.ChangeShapes Go.WideShapes Go.ChangeAt Go.RowKit

/-- Parts, one behind the other. -/
def flatL (xs : List ByteArray) : List UInt8 := xs.flatMap fun x => x.data.toList
theorem flatL_append (a b : List ByteArray) : flatL (a ++ b) = flatL a ++ flatL b := by simp [flatL]
theorem join_flat : ∀ xs : List ByteArray, Lib.join (xs.map fun x => x.data.toList) [] = flatL xs
  | [] => rfl
  | [x] => by simp [Lib.join, flatL]
  | x :: y :: xs => by
    have ih := join_flat (y :: xs)
    simp [Lib.join, flatL] at ih ⊢
    exact ih
def strs (xs : List ByteArray) : List Value := xs.map Value.string
set_option maxHeartbeats 1000000 in
set_option maxRecDepth 100000 in
theorem joined_row (bk c : Nat) (xs : List ByteArray) (w : World) (hcells : ∀ (j : Nat) x, xs[j]? = some x → w.cell? ⟨bk, j, none⟩ = some (.string x)) (hbk : bk < w.heap.size) (hcap : xs.length ≤ c) (hn : xs.length ≤ 140737488355328) (hlen : (flatL xs).length ≤ 140737488355328) :
    Calls Tryz.prog 27 #[.slice (some ⟨bk, 0, none⟩) xs.length c] w fun e w' => e = .returned (.string (bytes (flatL xs))) ∧ Below w.heap.size w w' := by
  have h := Tryz.strings_Join bk 0 c xs ⟨#[]⟩ w (fun j x hx => by rw [Nat.zero_add]; exact hcells j x hx) hbk hn hcap (by
    show (Lib.join (xs.map fun x => x.data.toList) []).length ≤ _
    rw [join_flat]; exact hlen)
  have e : Lib.join (xs.map (·.data.toList)) (⟨#[]⟩ : ByteArray).data.toList = flatL xs := join_flat xs
  rw [e] at h
  have H := Lib.hid h
  clear h hcells
  go_enter Tryz.func27, Tryz.ntmps27
  go_wp2_with fail
  refine H.out.mono ?_
  rintro e w' ⟨rfl, hb⟩
  go_wp2
  go_ret
  exact ⟨rfl, hb⟩
/-- The text that stands behind the elements. -/
def behindT (t : List UInt8) : List UInt8 := if t = [] then [] else 32 :: 239 :: 187 :: 191 :: t
set_option maxHeartbeats 1000000 in
set_option maxRecDepth 100000 in
theorem textBehind_any (s : ByteArray) (w : World) (hs : s.size ≤ 70368744177664) : Calls Tryz.prog 31 #[.string s] w fun e w' => e = .returned (.string (bytes (behindT s.data.toList))) ∧ Below w.heap.size w w' := by
  by_cases h0 : s.size = 0
  · have hq := empty_of h0
    have hl : s.data.toList = [] := List.eq_nil_of_length_eq_zero (by rw [list_size]; exact h0)
    rw [hl]
    go_enter Tryz.func31, Tryz.ntmps31
    go_wp2
    go_ret
    exact ⟨rfl, Below.refl _ _⟩
  · have hq := full_of (s := s) (by omega)
    have hl : s.data.toList ≠ [] := fun h => h0 (by rw [← list_size, h]; rfl)
    have hf : flatL [⟨#[32]⟩, ⟨#[239, 187, 191]⟩, s] = behindT s.data.toList := by
      unfold behindT; rw [if_neg hl]; simp [flatL]
    have H := Lib.hid (joined_row w.heap.size 3 [⟨#[32]⟩, ⟨#[239, 187, 191]⟩, s] (w.alloc (.cells #[.string ⟨#[32]⟩, .string ⟨#[239, 187, 191]⟩, .string s] 9)) (fun j x hx => by
      rw [cell_of_row _ _ j #[.string ⟨#[32]⟩, .string ⟨#[239, 187, 191]⟩, .string s] 9 (0, 0) (heap_alloc_last w _)]
      match j, hx with
      | 0, hx => cases hx; rfl
      | 1, hx => cases hx; rfl
      | 2, hx => cases hx; rfl
      | j + 3, hx => simp at hx) (by simp) (Nat.le_refl 3) (show (3 : Nat) ≤ 140737488355328 by decide) (by
        have e : (flatL [⟨#[32]⟩, ⟨#[239, 187, 191]⟩, s]).length = s.size + 4 := by simp [flatL]
        rw [e]; omega))
    rw [hf] at H
    clear hf hl h0
    go_enter Tryz.func31, Tryz.ntmps31
    go_wp2_with fail
    refine H.out.mono ?_
    rintro e w' ⟨rfl, hb⟩
    go_wp2
    go_ret
    exact ⟨rfl, ((Below.refl _ _).alloc (Nat.le_refl _) _).trans (hb.mono (by simp))⟩
end Go.Proofs.YtnaijahhogndjaaGreatDoor
/- What cal.Text answers: a date's text. Conditions: the table of months' lengths, and the library's table of powers of ten, stand. -/
namespace Go.Proofs.YtnaijahhogndjaaGreatDoor.Cal
open Go.ChangeShapes Go.WideShapes Go.ChangeAt Go.RowKit

theorem gPow : Tryz.prog.globalNamed "internal/strconv.uint64pow10" = some 3 := by kernel_rfl
/-- The library's table of powers of ten stands. -/
def Pow (w : World) : Prop := 3 < w.heap.size ∧ Lib.TabIs Tryz.prog w "internal/strconv.uint64pow10" .u64 Lib.pow10Tab
theorem Pow.below {w w' : World} (h : Pow w) (b : Below w.heap.size w w') : Pow w' := by
  refine ⟨Nat.lt_of_lt_of_le h.1 b.size, ?_⟩
  have h2 := h.2
  unfold Lib.TabIs World.var? at h2 ⊢
  rw [gPow] at h2 ⊢
  simp only [Option.bind_some] at h2 ⊢
  rw [b.block 3 h.1]
  exact h2
theorem Pow.alloc {w : World} (h : Pow w) (o) : Pow (w.alloc o) := h.below ((Below.refl _ _).alloc (Nat.le_refl _) _)
theorem grown_below (w : World) (k : Nat) (os : Array Obj) : Below w.heap.size w (Go.Sort.grow (w.drewN k) os) :=
  ⟨rfl, rfl, rfl, by show w.heap.size ≤ (w.heap ++ os).size; simp, fun j hj => by
    show (w.heap ++ os)[j]? = w.heap[j]?
    rw [Array.getElem?_append_left hj]⟩
theorem bytes_append (a b : List UInt8) : bytes a ++ bytes b = bytes (a ++ b) := by
  apply ByteArray.ext
  rw [ByteArray.data_append]
  simp [bytes]
theorem repeat_zeros (c : Nat) : Lib.repeatL [48] c = List.replicate c 48 := by
  have := Lib.repeatL_replicate 48 1 c
  simpa using this
theorem itoa_any (n : Nat) (w : World) (hp : Pow w) (hn : n < 1000000) : Calls Tryz.prog 26 #[.int .i64 n] w fun e w' => e = .returned (.string (bytes (Lib.decDigits n))) ∧ Below w.heap.size w w' := by
  refine (Tryz.strconv_Itoa (n : Int) (by omega) (by omega) w hp.2).mono ?_
  rintro e w' ⟨rfl, k, os, rfl⟩
  refine ⟨?_, grown_below w k os⟩
  unfold Lib.itoa
  rw [if_neg (by omega)]
  rfl
theorem repeat_any (c : Nat) (w : World) (hc : c ≤ 6) : Calls Tryz.prog 128 #[.string ⟨#[48]⟩, .int .i64 c] w fun e w' => e = .returned (.string (bytes (List.replicate c 48))) ∧ Below w.heap.size w w' := by
  have h := Tryz.strings_Repeat ⟨#[48]⟩ c w (by omega) (by have e : (⟨#[48]⟩ : ByteArray).size = 1 := rfl; rw [e]; omega)
  refine h.mono ?_
  rintro e w' ⟨rfl, hb⟩
  refine ⟨?_, hb⟩
  show Ending.returned (.string ⟨(Lib.repeatL [48] c).toArray⟩) = _
  rw [repeat_zeros]
  rfl
set_option maxHeartbeats 800000 in
theorem figures_nat (n k : Nat) (w : World) (hp : Pow w) (hk : 0 < k) (hk6 : k ≤ 6) (hn : n < 10 ^ k) :
    Calls Tryz.prog 96 #[.int .i64 n, .int .i64 k] w fun e w' => e = .returned (.string (bytes (pad k n))) ∧ Below w.heap.size w w' := by
  obtain ⟨h1, h2⟩ := pad_dec k n hk hn
  have hn6 : n < 1000000 := by
    have : 10 ^ k ≤ 10 ^ 6 := Nat.pow_le_pow_right (by decide) hk6
    have e : (10 : Nat) ^ 6 = 1000000 := rfl
    omega
  have HP := Lib.hid h2
  have hz : (bytes (Lib.decDigits n)).size = (Lib.decDigits n).length := bytes_size _
  obtain ⟨c, hc⟩ : ∃ c : Nat, (k : Int) - ((bytes (Lib.decDigits n)).size : Int) = (c : Int) ∧ c = k - (Lib.decDigits n).length := ⟨k - (Lib.decDigits n).length, by omega, rfl⟩
  have HC := Lib.hid hc.2
  have hsub := hc.1
  have hsz : (bytes (Lib.decDigits n)).size ≤ 6 := by omega
  clear h2 hc hz hn
  generalize hD : bytes (Lib.decDigits n) = D at hsub hsz
  have HDD := Lib.hid hD
  clear hD
  have hc6 : c ≤ 6 := by omega
  go_enter Tryz.func96, Tryz.ntmps96
  go_wp2_with fail
  refine (itoa_any n _ hp hn6).mono ?_
  rintro e w1 ⟨rfl, hb1⟩
  rw [HDD.out]
  go_wp2_with fail
  refine (repeat_any c _ hc6).mono ?_
  rintro e w2 ⟨rfl, hb2⟩
  have hrs : (bytes (List.replicate c 48)).size ≤ 6 := by rw [bytes_size, List.length_replicate]; exact hc6
  go_wp2
  go_ret
  refine ⟨?_, hb1.trans (hb2.mono hb1.size)⟩
  show Ending.returned (.string (bytes (List.replicate c 48) ++ D)) = _
  rw [← HDD.out, bytes_append, HC.out, HP.out]
theorem figures_any (n : Int) (k : Nat) (w : World) (hp : Pow w) (h0 : 0 ≤ n) (hk : 0 < k) (hk6 : k ≤ 6) (hn : n.toNat < 10 ^ k) :
    Calls Tryz.prog 96 #[.int .i64 n, .int .i64 k] w fun e w' => e = .returned (.string (bytes (pad k n.toNat))) ∧ Below w.heap.size w w' := by
  have := figures_nat n.toNat k w hp hk hk6 hn
  rw [Int.toNat_of_nonneg h0] at this
  exact this
set_option maxHeartbeats 800000 in
theorem zoneText_any (z : Int) (w : World) (hp : Pow w) (h1 : -1439 ≤ z) (h2 : z ≤ 1439) :
    Calls Tryz.prog 97 #[.int .i64 z] w fun e w' => e = .returned (.string (bytes (zoneText z))) ∧ Below w.heap.size w w' := by
  rcases (show z = 0 ∨ z < 0 ∨ 0 < z by omega) with rfl | hn | hn
  · go_enter Tryz.func97, Tryz.ntmps97
    go_wp2
    go_ret
    exact ⟨rfl, Below.refl _ _⟩
  · obtain ⟨Z, rfl⟩ : ∃ Z, z = -Z := ⟨-z, by omega⟩
    have e0 : (-Z == 0) = false := beq_eq_false_iff_ne.2 (by omega)
    have HT := Lib.hid (show zoneText (-Z) = [45] ++ (pad 2 (Z / 60).toNat ++ ([58] ++ pad 2 (Z % 60).toNat)) by
      unfold zoneText; rw [if_neg (by omega), if_pos (by omega), show (-Z).natAbs / 60 = (Z / 60).toNat by omega, show (-Z).natAbs % 60 = (Z % 60).toNat by omega])
    go_enter Tryz.func97, Tryz.ntmps97
    go_wp2_with fail
    refine (figures_any _ 2 _ hp (by omega) (by omega) (by omega) (by omega)).mono ?_
    rintro e w1 ⟨rfl, hb1⟩
    have hp1 := hp.below hb1
    have s1 : (bytes (pad 2 (Z / 60).toNat)).size ≤ 2 := by rw [bytes_size, pad_length]; exact Nat.le_refl _
    have s0 : (⟨#[45]⟩ : ByteArray).size ≤ 1 := Nat.le_refl _
    have s3 : (⟨#[58]⟩ : ByteArray).size ≤ 1 := Nat.le_refl _
    go_wp2_with fail
    refine (figures_any _ 2 _ hp1 (by omega) (by omega) (by omega) (by omega)).mono ?_
    rintro e w2 ⟨rfl, hb2⟩
    have s2 : (bytes (pad 2 (Z % 60).toNat)).size ≤ 2 := by rw [bytes_size, pad_length]; exact Nat.le_refl _
    go_wp2
    go_ret
    refine ⟨?_, hb1.trans (hb2.mono hb1.size)⟩
    show Ending.returned (.string (((bytes [45] ++ bytes (pad 2 (Z / 60).toNat)) ++ bytes [58]) ++ bytes (pad 2 (Z % 60).toNat))) = _
    rw [bytes_append, bytes_append, bytes_append, HT.out]
    simp
  · have e0 : (z == 0) = false := beq_eq_false_iff_ne.2 (by omega)
    have HT := Lib.hid (show zoneText z = [43] ++ (pad 2 (z / 60).toNat ++ ([58] ++ pad 2 (z % 60).toNat)) by
      unfold zoneText; rw [if_neg (by omega), if_neg (by omega), show z.natAbs / 60 = (z / 60).toNat by omega, show z.natAbs % 60 = (z % 60).toNat by omega])
    go_enter Tryz.func97, Tryz.ntmps97
    go_wp2_with fail
    refine (figures_any _ 2 _ hp (by omega) (by omega) (by omega) (by omega)).mono ?_
    rintro e w1 ⟨rfl, hb1⟩
    have hp1 := hp.below hb1
    have s1 : (bytes (pad 2 (z / 60).toNat)).size ≤ 2 := by rw [bytes_size, pad_length]; exact Nat.le_refl _
    have s0 : (⟨#[43]⟩ : ByteArray).size ≤ 1 := Nat.le_refl _
    have s3 : (⟨#[58]⟩ : ByteArray).size ≤ 1 := Nat.le_refl _
    go_wp2_with fail
    refine (figures_any _ 2 _ hp1 (by omega) (by omega) (by omega) (by omega)).mono ?_
    rintro e w2 ⟨rfl, hb2⟩
    have s2 : (bytes (pad 2 (z % 60).toNat)).size ≤ 2 := by rw [bytes_size, pad_length]; exact Nat.le_refl _
    go_wp2
    go_ret
    refine ⟨?_, hb1.trans (hb2.mono hb1.size)⟩
    show Ending.returned (.string (((bytes [43] ++ bytes (pad 2 (z / 60).toNat)) ++ bytes [58]) ++ bytes (pad 2 (z % 60).toNat))) = _
    rw [bytes_append, bytes_append, bytes_append, HT.out]
    simp

/-! ### what is held while a text is put together -/
theorem held8_next {w6 W w' : World} {b : Nat} {c0 c1 c2 c3 c4 c5 c6 c7 : Value} (h : W.cell? ⟨b, 0, none⟩ = some c0 ∧ W.cell? ⟨b, 1, none⟩ = some c1 ∧ W.cell? ⟨b, 2, none⟩ = some c2 ∧ W.cell? ⟨b, 3, none⟩ = some c3 ∧ W.cell? ⟨b, 4, none⟩ = some c4 ∧ W.cell? ⟨b, 5, none⟩ = some c5 ∧ W.cell? ⟨b, 6, none⟩ = some c6 ∧ W.cell? ⟨b, 7, none⟩ = some c7 ∧ Below w6.heap.size w6 W) (hlt : b < w6.heap.size) (hb : Below W.heap.size W w') :
    w'.cell? ⟨b, 0, none⟩ = some c0 ∧ w'.cell? ⟨b, 1, none⟩ = some c1 ∧ w'.cell? ⟨b, 2, none⟩ = some c2 ∧ w'.cell? ⟨b, 3, none⟩ = some c3 ∧ w'.cell? ⟨b, 4, none⟩ = some c4 ∧ w'.cell? ⟨b, 5, none⟩ = some c5 ∧ w'.cell? ⟨b, 6, none⟩ = some c6 ∧ w'.cell? ⟨b, 7, none⟩ = some c7 ∧ Below w6.heap.size w6 w' := by
  obtain ⟨h0, h1, h2, h3, h4, h5, h6, h7, hB⟩ := h
  have hl : b < W.heap.size := Nat.lt_of_lt_of_le hlt hB.size
  obtain ⟨hc, _⟩ := bcell hb
  exact ⟨(hc b 0 hl).trans h0, (hc b 1 hl).trans h1, (hc b 2 hl).trans h2, (hc b 3 hl).trans h3, (hc b 4 hl).trans h4, (hc b 5 hl).trans h5, (hc b 6 hl).trans h6, (hc b 7 hl).trans h7, hB.trans (hb.mono hB.size)⟩
theorem held8_below {w6 W : World} {b : Nat} {c0 c1 c2 c3 c4 c5 c6 c7 : Value} (h : W.cell? ⟨b, 0, none⟩ = some c0 ∧ W.cell? ⟨b, 1, none⟩ = some c1 ∧ W.cell? ⟨b, 2, none⟩ = some c2 ∧ W.cell? ⟨b, 3, none⟩ = some c3 ∧ W.cell? ⟨b, 4, none⟩ = some c4 ∧ W.cell? ⟨b, 5, none⟩ = some c5 ∧ W.cell? ⟨b, 6, none⟩ = some c6 ∧ W.cell? ⟨b, 7, none⟩ = some c7 ∧ Below w6.heap.size w6 W) : Below w6.heap.size w6 W := by
  obtain ⟨_, _, _, _, _, _, _, _, hB⟩ := h
  exact hB
theorem held8_pow {w6 W : World} {b : Nat} {c0 c1 c2 c3 c4 c5 c6 c7 : Value} (hp : Pow w6) (h : W.cell? ⟨b, 0, none⟩ = some c0 ∧ W.cell? ⟨b, 1, none⟩ = some c1 ∧ W.cell? ⟨b, 2, none⟩ = some c2 ∧ W.cell? ⟨b, 3, none⟩ = some c3 ∧ W.cell? ⟨b, 4, none⟩ = some c4 ∧ W.cell? ⟨b, 5, none⟩ = some c5 ∧ W.cell? ⟨b, 6, none⟩ = some c6 ∧ W.cell? ⟨b, 7, none⟩ = some c7 ∧ Below w6.heap.size w6 W) : Pow W := hp.below (held8_below h)
theorem fig_t {n : Int} {k : Nat} {w : World} {A : ByteArray} (hp : Pow w) (h : bytes (pad k n.toNat) = A) (h0 : 0 ≤ n) (hk : 0 < k) (hk6 : k ≤ 6) (hn : n.toNat < 10 ^ k) :
    Calls Tryz.prog 96 #[.int .i64 n, .int .i64 k] w fun e w' => e = .returned (.string A) ∧ Below w.heap.size w w' := by
  have := figures_any n k w hp h0 hk hk6 hn
  rw [h] at this
  exact this
theorem fig2_t {n : Int} {w : World} {A : ByteArray} (hp : Pow w) (h : bytes (pad 2 n.toNat) = A) (h0 : 0 ≤ n) (hn : n.toNat < 10 ^ 2) :
    Calls Tryz.prog 96 #[.int .i64 n, .int .i64 2] w fun e w' => e = .returned (.string A) ∧ Below w.heap.size w w' := fig_t (k := 2) hp h h0 (by decide) (by decide) hn
theorem fig4_t {n : Int} {w : World} {A : ByteArray} (hp : Pow w) (h : bytes (pad 4 n.toNat) = A) (h0 : 0 ≤ n) (hn : n.toNat < 10 ^ 4) :
    Calls Tryz.prog 96 #[.int .i64 n, .int .i64 4] w fun e w' => e = .returned (.string A) ∧ Below w.heap.size w w' := fig_t (k := 4) hp h h0 (by decide) (by decide) hn
theorem fig6_t {n : Int} {w : World} {A : ByteArray} (hp : Pow w) (h : bytes (pad 6 n.toNat) = A) (h0 : 0 ≤ n) (hn : n.toNat < 10 ^ 6) :
    Calls Tryz.prog 96 #[.int .i64 n, .int .i64 6] w fun e w' => e = .returned (.string A) ∧ Below w.heap.size w w' := fig_t (k := 6) hp h h0 (by decide) (by decide) hn
theorem named_pad (k n : Nat) : ∃ A : ByteArray, bytes (pad k n) = A ∧ A.size ≤ k := ⟨_, rfl, by rw [bytes_size, pad_length]; exact Nat.le_refl _⟩
theorem text_no (y m d h i s n z : Int) (w : World) (ht : Tab w) (hr : rightB y m d h i s n z = false) :
    Calls Tryz.prog 66 #[.agg #[.int .i64 y, .int .i64 m, .int .i64 d, .int .i64 h, .int .i64 i, .int .i64 s, .int .i64 n, .int .i64 z]] w
      fun e w' => e = .returned (.tuple #[.string (bytes []), .int .i64 1]) ∧ Below w.heap.size w w' := by
  have hb : Below w.heap.size w (w.alloc (.cells #[.int .i64 y, .int .i64 m, .int .i64 d, .int .i64 h, .int .i64 i, .int .i64 s, .int .i64 n, .int .i64 z] 62)) := (Below.refl _ _).alloc (Nat.le_refl _) _
  have ht1 := ht.below hb
  go_enter Tryz.func66, Tryz.ntmps66
  go_wp2_with (go_at_call 95; refine (right_any _ _ _ _ _ _ _ _ _ ht1).mono ?_; rintro e w' ⟨rfl, hb2⟩)
  go_ret2
  exact ⟨rfl, hb.trans (hb2.mono (by simp))⟩
set_option maxHeartbeats 4000000 in
theorem text_yes (y m d h i s n z : Int) (w : World) (ht : Tab w) (hp : Pow w) (hr : rightB y m d h i s n z = true) :
    Calls Tryz.prog 66 #[.agg #[.int .i64 y, .int .i64 m, .int .i64 d, .int .i64 h, .int .i64 i, .int .i64 s, .int .i64 n, .int .i64 z]] w
      fun e w' => e = .returned (.tuple #[.string (bytes (dateText y m d h i s n z)), .int .i64 0]) ∧ Below w.heap.size w w' := by
  obtain ⟨⟨y1, y2⟩, ⟨d1, d2⟩, ⟨h1, h2⟩, ⟨i1, i2⟩, ⟨s1, s2⟩, ⟨n1, n2⟩, n3, ⟨z1, z2⟩⟩ := (right_iff ..).1 hr
  obtain ⟨m1, m2⟩ := month_of_day d1 d2
  have d3 : d ≤ 31 := by have := (lenI_bd y m).2; omega
  obtain ⟨A1, e1, q1⟩ := named_pad 4 y.toNat
  obtain ⟨A2, e2, q2⟩ := named_pad 2 m.toNat
  obtain ⟨A3, e3, q3⟩ := named_pad 2 d.toNat
  obtain ⟨A4, e4, q4⟩ := named_pad 2 h.toNat
  obtain ⟨A5, e5, q5⟩ := named_pad 2 i.toNat
  obtain ⟨A6, e6, q6⟩ := named_pad 2 s.toNat
  obtain ⟨A7, e7, q7⟩ := named_pad 6 (n / 1000).toNat
  have E1 := Lib.hid e1
  have E2 := Lib.hid e2
  have E3 := Lib.hid e3
  have E4 := Lib.hid e4
  have E5 := Lib.hid e5
  have E6 := Lib.hid e6
  have E7 := Lib.hid e7
  have N3 := Lib.hid n3
  clear e1 e2 e3 e4 e5 e6 e7 d2 n3
  have hb : Below w.heap.size w (w.alloc (.cells #[.int .i64 y, .int .i64 m, .int .i64 d, .int .i64 h, .int .i64 i, .int .i64 s, .int .i64 n, .int .i64 z] 62)) := (Below.refl _ _).alloc (Nat.le_refl _) _
  have ht1 := ht.below hb
  have hp1 := hp.below hb
  go_enter Tryz.func66, Tryz.ntmps66
  go_wp2_with fail
  refine (right_any _ _ _ _ _ _ _ _ _ ht1).mono ?_
  rintro e w2 ⟨rfl, hb2⟩
  have hp2 := hp1.below hb2
  have B2 : Below w.heap.size w w2 := hb.trans (hb2.mono (by simp))
  obtain ⟨hc2, hf2⟩ := bcell hb2
  have hz2 : w.heap.size < w2.heap.size := by have := hb2.size; simp at this; omega
  have hC : w2.cell? ⟨w.heap.size, 0, none⟩ = some (.int .i64 y) ∧ w2.cell? ⟨w.heap.size, 1, none⟩ = some (.int .i64 m) ∧ w2.cell? ⟨w.heap.size, 2, none⟩ = some (.int .i64 d) ∧ w2.cell? ⟨w.heap.size, 3, none⟩ = some (.int .i64 h) ∧ w2.cell? ⟨w.heap.size, 4, none⟩ = some (.int .i64 i) ∧ w2.cell? ⟨w.heap.size, 5, none⟩ = some (.int .i64 s) ∧ w2.cell? ⟨w.heap.size, 6, none⟩ = some (.int .i64 n) ∧ w2.cell? ⟨w.heap.size, 7, none⟩ = some (.int .i64 z) := by simp [hc2, go_sem]
  obtain ⟨k0, k1, k2, k3, k4, k5, k6, k7⟩ := hC
  clear ht ht1 hp hp1 hb hb2 hc2 hf2
  go_wp2_with fail
  have c1 : ¬ 9223372036854775807 < A1.size + 1 := by omega
  have c2 : ¬ 9223372036854775807 < A1.size + 1 + A2.size := by omega
  have c3 : ¬ 9223372036854775807 < A1.size + 1 + A2.size + 1 := by omega
  have c4 : ¬ 9223372036854775807 < A1.size + 1 + A2.size + 1 + A3.size := by omega
  go_region_held3 (fun w' => w'.cell? ⟨w.heap.size, 0, none⟩ = some (.int .i64 y) ∧ w'.cell? ⟨w.heap.size, 1, none⟩ = some (.int .i64 m) ∧ w'.cell? ⟨w.heap.size, 2, none⟩ = some (.int .i64 d) ∧ w'.cell? ⟨w.heap.size, 3, none⟩ = some (.int .i64 h) ∧ w'.cell? ⟨w.heap.size, 4, none⟩ = some (.int .i64 i) ∧ w'.cell? ⟨w.heap.size, 5, none⟩ = some (.int .i64 s) ∧ w'.cell? ⟨w.heap.size, 6, none⟩ = some (.int .i64 n) ∧ w'.cell? ⟨w.heap.size, 7, none⟩ = some (.int .i64 z) ∧ Below w2.heap.size w2 w')
    (first
      | assumption
      | exact held8_next (by assumption) hz2 (by assumption)
      | exact ⟨k0, k1, k2, k3, k4, k5, k6, k7, drewN_below w2 1⟩)
    (first
      | (go_at_call 96; (with_reducible refine (fig4_t (n := y) (held8_pow (b := w.heap.size) hp2 (by assumption)) E1.out (by omega) (by omega)).mono ?_); rintro e w' ⟨rfl, hbx⟩)
      | (go_at_call 96; (with_reducible refine (fig2_t (n := m) (held8_pow (b := w.heap.size) hp2 (by assumption)) E2.out (by omega) (by omega)).mono ?_); rintro e w' ⟨rfl, hbx⟩)
      | (go_at_call 96; (with_reducible refine (fig2_t (n := d) (held8_pow (b := w.heap.size) hp2 (by assumption)) E3.out (by omega) (by omega)).mono ?_); rintro e w' ⟨rfl, hbx⟩))
  rename World => w3
  rename_i hS3
  have B3 := B2.trans ((held8_below hS3).mono B2.size)
  have hp3 := held8_pow hp2 hS3
  obtain ⟨j0, j1, j2, j3, j4, j5, j6, j7, hb3⟩ := hS3
  have hz3 : w.heap.size < w3.heap.size := Nat.lt_of_lt_of_le hz2 hb3.size
  clear k0 k1 k2 k3 k4 k5 k6 k7 hp2 hb3 hz2 B2 c1 c2 c3 c4
  obtain ⟨T1, hT1⟩ : ∃ T1, A1 ++ (⟨#[45]⟩ : ByteArray) ++ A2 ++ (⟨#[45]⟩ : ByteArray) ++ A3 = T1 := ⟨_, rfl⟩
  have t1 : T1.size ≤ 10 := by rw [← hT1]; simp only [ByteArray.size_append, show (⟨#[45]⟩ : ByteArray).size = 1 from rfl]; omega
  rw [hT1]
  have HT1 := Lib.hid hT1
  clear hT1
  have c1 : ¬ 9223372036854775807 < 1 + A4.size := by omega
  have c2 : ¬ 9223372036854775807 < 1 + A4.size + 1 := by omega
  have c3 : ¬ 9223372036854775807 < 1 + A4.size + 1 + A5.size := by omega
  have c4 : ¬ 9223372036854775807 < 1 + A4.size + 1 + A5.size + 1 := by omega
  have c5 : ¬ 9223372036854775807 < 1 + A4.size + 1 + A5.size + 1 + A6.size := by omega
  have c6 : ¬ 9223372036854775807 < T1.size + (1 + A4.size + 1 + A5.size + 1 + A6.size) := by omega
  go_wp2_with fail
  go_region_held3 (fun w' => w'.cell? ⟨w.heap.size, 0, none⟩ = some (.int .i64 y) ∧ w'.cell? ⟨w.heap.size, 1, none⟩ = some (.int .i64 m) ∧ w'.cell? ⟨w.heap.size, 2, none⟩ = some (.int .i64 d) ∧ w'.cell? ⟨w.heap.size, 3, none⟩ = some (.int .i64 h) ∧ w'.cell? ⟨w.heap.size, 4, none⟩ = some (.int .i64 i) ∧ w'.cell? ⟨w.heap.size, 5, none⟩ = some (.int .i64 s) ∧ w'.cell? ⟨w.heap.size, 6, none⟩ = some (.int .i64 n) ∧ w'.cell? ⟨w.heap.size, 7, none⟩ = some (.int .i64 z) ∧ Below w3.heap.size w3 w')
    (first
      | assumption
      | exact held8_next (by assumption) hz3 (by assumption)
      | exact ⟨j0, j1, j2, j3, j4, j5, j6, j7, drewN_below w3 1⟩)
    (first
      | (go_at_call 96; (with_reducible refine (fig2_t (n := h) (held8_pow (b := w.heap.size) hp3 (by assumption)) E4.out (by omega) (by omega)).mono ?_); rintro e w' ⟨rfl, hbx⟩)
      | (go_at_call 96; (with_reducible refine (fig2_t (n := i) (held8_pow (b := w.heap.size) hp3 (by assumption)) E5.out (by omega) (by omega)).mono ?_); rintro e w' ⟨rfl, hbx⟩)
      | (go_at_call 96; (with_reducible refine (fig2_t (n := s) (held8_pow (b := w.heap.size) hp3 (by assumption)) E6.out (by omega) (by omega)).mono ?_); rintro e w' ⟨rfl, hbx⟩))
  rename World => w4
  rename_i hS4
  have B4 := B3.trans ((held8_below hS4).mono B3.size)
  have hp4 := held8_pow hp3 hS4
  obtain ⟨g0, g1, g2, g3, g4, g5, g6, g7, hb4⟩ := hS4
  have hz4 : w.heap.size < w4.heap.size := Nat.lt_of_lt_of_le hz3 hb4.size
  clear j0 j1 j2 j3 j4 j5 j6 j7 hp3 hb4 B3
  obtain ⟨T2, hT2⟩ : ∃ T2, T1 ++ ((⟨#[84]⟩ : ByteArray) ++ A4 ++ (⟨#[58]⟩ : ByteArray) ++ A5 ++ (⟨#[58]⟩ : ByteArray) ++ A6) = T2 := ⟨_, rfl⟩
  have t2 : T2.size ≤ 19 := by rw [← hT2]; simp only [ByteArray.size_append, show (⟨#[84]⟩ : ByteArray).size = 1 from rfl, show (⟨#[58]⟩ : ByteArray).size = 1 from rfl]; omega
  rw [hT2]
  have HT2 := Lib.hid hT2
  clear hT2 c1 c2 c3 c4 c5 c6
  obtain ⟨Z, hZ⟩ : ∃ Z : ByteArray, bytes (zoneText z) = Z := ⟨_, rfl⟩
  have hzs : Z.size ≤ 6 := by
    rw [← hZ, bytes_size]
    unfold zoneText
    split
    · simp
    · split <;> simp [pad_length]
  have HZ := Lib.hid hZ
  clear hZ
  have key : bytes (dateText y m d h i s n z) = T2 ++ (bytes (nanoText n) ++ Z) := by
    rw [← HT2.out, ← HT1.out, ← E1.out, ← E2.out, ← E3.out, ← E4.out, ← E5.out, ← E6.out, ← HZ.out]
    rw [show (⟨#[45]⟩ : ByteArray) = bytes [45] from rfl, show (⟨#[84]⟩ : ByteArray) = bytes [84] from rfl, show (⟨#[58]⟩ : ByteArray) = bytes [58] from rfl]
    simp only [bytes_append]
    unfold dateText
    congr 1
  have KEY := Lib.hid key
  clear key
  by_cases h0 : n = 0
  · subst h0
    have c7 : ¬ 9223372036854775807 < T2.size + Z.size := by omega
    go_wp2_with fail
    refine (zoneText_any z _ hp4 z1 z2).mono ?_
    rintro e w5 ⟨rfl, hb5⟩
    rw [HZ.out]
    go_wp2
    go_ret2
    refine ⟨?_, B4.trans (hb5.mono B4.size)⟩
    show Ending.returned (.tuple #[.string (T2 ++ Z), .int .i64 0]) = _
    rw [KEY.out, show bytes (nanoText 0) = ByteArray.empty from rfl, ByteArray.empty_append]
  · have hne : (n == 0) = false := beq_eq_false_iff_ne.2 h0
    have hne2 : (n != 0) = true := by rw [bne_iff_ne]; exact h0
    have c7 : ¬ 9223372036854775807 < 1 + A7.size := by omega
    have c8 : ¬ 9223372036854775807 < T2.size + (1 + A7.size) := by omega
    have c9 : ¬ 9223372036854775807 < T2.size + (1 + A7.size) + Z.size := by omega
    have HNT := Lib.hid (show bytes (nanoText n) = (⟨#[46]⟩ : ByteArray) ++ A7 by
      unfold nanoText
      rw [if_neg h0, ← E7.out, show (⟨#[46]⟩ : ByteArray) = bytes [46] from rfl, bytes_append, show n.toNat / 1000 = (n / 1000).toNat by omega])
    clear h0
    go_wp2_with fail
    refine (fig6_t hp4 E7.out (by omega) (by omega)).mono ?_
    rintro e w5 ⟨rfl, hb5⟩
    have hp5 := hp4.below hb5
    have B5 := B4.trans (hb5.mono B4.size)
    obtain ⟨hc5, hf5⟩ := bcell hb5
    go_wp2_with fail
    refine (zoneText_any z _ hp5 z1 z2).mono ?_
    rintro e w6 ⟨rfl, hb6⟩
    rw [HZ.out]
    go_wp2
    go_ret2
    refine ⟨?_, B5.trans (hb6.mono B5.size)⟩
    show Ending.returned (.tuple #[.string (T2 ++ ((⟨#[46]⟩ : ByteArray) ++ A7) ++ Z), .int .i64 0]) = _
    rw [KEY.out, HNT.out, ByteArray.append_assoc]
end Go.Proofs.YtnaijahhogndjaaGreatDoor.Cal
/- What sysl.timeText answers of a right event: the text of its moment's date. Conditions: the tables stand. -/
namespace Go.Proofs.YtnaijahhogndjaaGreatDoor
open Go.ChangeShapes Go.WideShapes Go.ChangeAt Go.RowKit
open Cal (clamp DateIs dateText nanosI rightB)

/-- The text of an event's moment. -/
def TimeIs (td : Bool) (a : Int) (T : List UInt8) : Prop := (td = false ∧ T = [45]) ∨ (td = true ∧ ∃ y m d h i s k, DateIs (clamp a) y m d h i s k ∧ T = dateText y m d h i s k 0)
set_option maxHeartbeats 4000000 in
set_option maxRecDepth 100000 in
theorem timeText_any (e : Ev) (dv : Value) (w : World) (hS : Std w) (hP : Cal.Pow w) (h : ∃ a n c, dv = .slice a n c) :
    Calls Tryz.prog 28 #[e.val dv] w fun r w' => ∃ T, TimeIs e.timed e.at' T ∧ r = .returned (.string (bytes T)) ∧ Below w.heap.size w w' := by
  obtain ⟨la, ln, lc, rfl⟩ := h
  obtain ⟨g, f, t, a, ho, ap, pr, id, da, tx⟩ := e
  have hb : ∀ tt, Below w.heap.size w (w.alloc (.cells #[.int .i64 g, .int .i64 f, .bool tt, .int .i64 a, .string ho, .string ap, .string pr, .string id, .slice la ln lc, .string tx] 24)) := fun _ => (Below.refl _ _).alloc (Nat.le_refl _) _
  have hS1 := fun tt => hS.below (hb tt)
  have hP1 := fun tt => hP.below (hb tt)
  show Calls _ _ _ _ fun r w' => ∃ T, TimeIs t a T ∧ r = .returned (.string (bytes T)) ∧ _
  cases t with
  | false =>
    have hB := hb false
    clear hb hS1 hP1
    go_enter Tryz.func28, Tryz.ntmps28
    go_wp2
    go_ret
    exact ⟨[45], .inl ⟨rfl, rfl⟩, rfl, hB⟩
  | true =>
    have hB := hb true
    have hT := (hS1 true).1
    have hPP := hP1 true
    clear hb hS1 hP1
    go_enter Tryz.func28, Tryz.ntmps28
    go_wp2_with fail
    refine (Cal.date_any a _ hT).mono ?_
    rintro r w2 ⟨y, m, d, hh, i, s, k, rfl, hD, hb2⟩
    have B2 := hB.trans (hb2.mono hB.size)
    have hT2 := hT.below hb2
    have hP2 := hPP.below hb2
    have HD := Lib.hid hD
    clear hb2 hD
    go_wp2_with fail
    refine (Cal.text_yes y m d hh i s k 0 w2 hT2 hP2 (HD.out).1).mono ?_
    rintro r w3 ⟨rfl, hb3⟩
    have B3 := B2.trans (hb3.mono B2.size)
    clear hb3
    go_wp2
    go_ret
    exact ⟨_, .inr ⟨rfl, y, m, d, hh, i, s, k, HD.out, rfl⟩, rfl, B3⟩
end Go.Proofs.YtnaijahhogndjaaGreatDoor
