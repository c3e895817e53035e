/- What the closure of brief.Parse takes off a text: the number that the next bytes tell. And a brief's text, whatever brief. Condition: at most eight bytes, and they are there. -/
import Derived.Test.YtloknemmodmkiaaTexts
namespace Go.Proofs.Ytloknemmodmkiaa
open Go.ChangeShapes Go.WideShapes Go.ChangeAt Go.RowKit

/-! ### Texts as numbers -/
def nums (s : ByteArray) : List Int := s.data.toList.map fun b => ((b.toNat : Nat) : Int)
theorem nums_length (s : ByteArray) : (nums s).length = s.size := by rw [nums, List.length_map, Array.length_toList]; rfl
theorem nums_bytes (s : ByteArray) : Bytes (nums s) := by
  intro x hx
  simp only [nums, List.mem_map] at hx
  obtain ⟨b, _, rfl⟩ := hx
  have := b.toNat_lt
  omega
theorem strOfNums_nums (s : ByteArray) : strOfNums (nums s) = s := by
  apply ByteArray.ext
  apply Array.toList_inj.mp
  rw [strOfNums_data, nums, List.map_map]
  conv => rhs; rw [← List.map_id s.data.toList]
  apply List.map_congr_left
  intro b _
  simp
theorem nums_strOfNums (l : List Int) (h : Bytes l) : nums (strOfNums l) = l := by
  rw [nums, strOfNums_data, List.map_map]
  conv => rhs; rw [← List.map_id l]
  apply List.map_congr_left
  intro x hx
  have := h x hx
  simp
  omega
theorem nums_inj {s t : ByteArray} (h : nums s = nums t) : s = t := by rw [← strOfNums_nums s, h, strOfNums_nums]
theorem nums_append (s t : ByteArray) : nums (s ++ t) = nums s ++ nums t := by simp [nums, ByteArray.data_append]
theorem nums_extract (s : ByteArray) (a b : Nat) : nums (s.extract a b) = ((nums s).drop a).take (b - a) := by
  simp only [nums, ByteArray.data_extract, Array.toList_extract, List.extract, List.map_drop, List.map_take]
theorem strOfNums_append (a b : List Int) : strOfNums (a ++ b) = strOfNums a ++ strOfNums b := by
  apply ByteArray.ext
  apply Array.toList_inj.mp
  rw [ByteArray.data_append, Array.toList_append, strOfNums_data, strOfNums_data, strOfNums_data, List.map_append]
theorem getElem_nums (s : ByteArray) (k : Nat) (h : k < s.size) : ((s[k]'h).toNat : Int) = (nums s)[k]'(by rw [nums_length]; exact h) := by
  simp only [nums, List.getElem_map, Array.getElem_toList]
  rfl

/-! ### value -/
theorem or_byte (v x : Nat) (hv : v < 72057594037927936) (hx : x < 256) : bits .or .u64 ((v * 256 : Nat) : Int) ((x : Nat) : Int) = ((v * 256 + x : Nat) : Int) := by
  have e : bits .or .u64 ((v * 256 : Nat) : Int) (x : Int) = IntKind.u64.wrap ((BitVec.ofInt 64 ((v * 256 : Nat) : Int) ||| BitVec.ofInt 64 (x : Int)).toNat : Int) := rfl
  have o : ∀ n : Nat, BitVec.ofInt 64 (n : Int) = BitVec.ofNat 64 n := fun n => by apply BitVec.eq_of_toNat_eq; simp
  rw [e, o, o, BitVec.toNat_or, BitVec.toNat_ofNat, BitVec.toNat_ofNat, Nat.mod_eq_of_lt (show v * 256 < 2 ^ 64 by omega), Nat.mod_eq_of_lt (show x < 2 ^ 64 by omega),
    show v * 256 = 2 ^ 8 * v by omega, ← Nat.two_pow_add_eq_or_of_lt (by omega)]
  have : IntKind.u64.wrap ((2 ^ 8 * v + x : Nat) : Int) = ((2 ^ 8 * v + x : Nat) : Int) := by
    show ((2 ^ 8 * v + x : Nat) : Int) % 18446744073709551616 = _
    omega
  rw [this]


set_option maxHeartbeats 1000000 in
theorem take_at (W : World) (B : Nat) (s : ByteArray) (k : Nat) (hk : k ≤ s.size) (h8 : k ≤ 8) (hb : Boxed W B 9 (.string s)) :
    Calls Try.prog 26 #[.int .i64 k, .pointer (some ⟨B, 0, none⟩)] W fun e w' => e = .returned (.int .u64 (val ((nums s).take k))) ∧ w' = W.setCell ⟨B, 0, none⟩ (.string (s.extract k s.size)) := by
  have hc := hb.cell
  have hf := hb.frozen
  clear hb
  go_enter Try.func26, Try.ntmps26
  go_wp2
  go_loop [4, 7] (fun v i => ∃ j : Nat, j ≤ k ∧ i = .int .i64 j ∧ v = .int .u64 (val ((nums s).take j))) (fun _ i => k - (intOf i).toNat)
  case atStart => exact ⟨0, by omega, rfl, rfl⟩
  case round =>
    obtain ⟨j, hj, rfl, rfl⟩ := hrel
    by_cases hlt : j < k
    · have hby := nums_bytes s
      have hjs : j < s.size := by omega
      have hl : j < (nums s).length := by rw [nums_length]; exact hjs
      have hx := getElem_nums s j hjs
      have hbx := hby _ (List.getElem_mem hl)
      have hstep : val ((nums s).take (j + 1)) = val ((nums s).take j) * 256 + ((nums s)[j]'hl).toNat := by rw [List.take_succ_eq_append_getElem hl, val_snoc]
      have hv := val_lt ((nums s).take j) (fun x h => hby x (List.mem_of_mem_take h))
      rw [List.length_take, Nat.min_eq_left (by omega)] at hv
      have hv2 : val ((nums s).take j) < 72057594037927936 := Nat.lt_of_lt_of_le hv (by
        have : (256 : Nat) ^ j ≤ 256 ^ 7 := Nat.pow_le_pow_right (by decide) (by omega)
        omega)
      obtain ⟨x, hxx⟩ : ∃ x : Nat, (nums s)[j]'hl = (x : Int) := ⟨_, (Int.toNat_of_nonneg hbx.1).symm⟩
      have hx2 : x < 256 := by omega
      have HO := Lib.hid (or_byte (val ((nums s).take j)) x hv2 hx2)
      rw [hxx] at hx hstep
      have HS := Lib.hid hstep
      clear hstep hxx hbx hby hv
      go_wp2
      go_round
      case rel =>
        refine ⟨j + 1, by omega, by go_num, ?_⟩
        have h1 := HO.out
        have h2 := HS.out
        rw [h2, Int.toNat_natCast, ← h1, Int.natCast_mul]
        rfl
      case measure => simp [intOf]; omega
    · obtain rfl : j = k := by omega
      have hle : (j : Int) ≤ ((s.size : Nat) : Int) := by omega
      go_wp2
      go_ret
      exact ⟨rfl, rfl⟩

/-! ### a brief's text -/
def textS (b : Br) : ByteArray := strOfNums (be 8 (b.f % 18446744073709551616).toNat ++ (be 8 (b.l % 18446744073709551616).toNat ++ (be 4 b.g.toNat ++ (be 4 b.r.toNat ++ (be 8 b.m.toNat ++ (be 1 (if b.k then 1 else 0) ++ []))))))
theorem textS_is (b : Br) (h : Fits b) : textS b = strOfNums (textL b h) := rfl
theorem textS_size (b : Br) (h : Fits b) : (textS b).size = 33 := by rw [textS_is b h, strOfNums_size, textL_length]
theorem textS_read (b : Br) (h : Fits b) (h' : Fits64 b) : readL (nums (textS b)) = b := by
  rw [textS_is b h, nums_strOfNums (textL b h) (told_bytes _), read_text b h h']
theorem textS_inj (a b : Br) (ha : Fits a) (ha' : Fits64 a) (hb : Fits b) (hb' : Fits64 b) (h : textS a = textS b) : a = b := by
  rw [← textS_read a ha ha', ← textS_read b hb hb', h]
theorem text_R (b : Br) (h : Fits b) (w : World) : Calls Try.prog 19 #[.agg #[.int .i64 b.f, .int .i64 b.l, .int .u32 b.g, .int .u32 b.r, .int .u64 b.m, .bool b.k]] w fun e w' => e = .returned (.string (textS b)) ∧ Below w.heap.size w w' := by
  obtain ⟨f, l, g, r, m, k⟩ := b
  obtain ⟨G, rfl⟩ := Int.eq_ofNat_of_zero_le h.g1
  obtain ⟨R, rfl⟩ := Int.eq_ofNat_of_zero_le h.r1
  obtain ⟨M, rfl⟩ := Int.eq_ofNat_of_zero_le h.m1
  have g2 := h.g2
  have r2 := h.r2
  have m2 := h.m2
  simp only at g2 r2 m2
  exact text_at f l (f % 18446744073709551616).toNat (l % 18446744073709551616).toNat G R M (if k then 1 else 0) k (by omega) (by omega) (by omega) (by omega) (by omega) (by split <;> decide) (by omega) (by omega) rfl w
end Go.Proofs.Ytloknemmodmkiaa
