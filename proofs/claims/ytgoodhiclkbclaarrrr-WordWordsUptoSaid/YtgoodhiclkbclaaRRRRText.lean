/- Words and their bytes, as plain lists of numbers: four bytes make a word, and a word's bytes are those that made it. Conditions: bytes are below 256, words below 2^32. -/
import Derived.Test.YtgoodhiclkbclaaRRRRBits
namespace Go.Proofs.YtgoodhiclkbclaaRRRR

theorem or_low (P q i : Nat) (hq : q < 2 ^ i) (hP : 2 ^ i * P + q < 4294967296) : bits .or .u32 ((2 ^ i * P : Nat) : Int) (q : Int) = ((2 ^ i * P + q : Nat) : Int) := by
  have e : bits .or .u32 ((2 ^ i * P : Nat) : Int) (q : Int) = IntKind.u32.wrap ((BitVec.ofInt 32 ((2 ^ i * P : Nat) : Int) ||| BitVec.ofInt 32 (q : Int)).toNat : Int) := rfl
  rw [e, ofInt_nat32, ofInt_nat32, BitVec.toNat_or, BitVec.toNat_ofNat, BitVec.toNat_ofNat, Nat.mod_eq_of_lt (show 2 ^ i * P < 2 ^ 32 by omega), Nat.mod_eq_of_lt (show q < 2 ^ 32 by omega),
    ← Nat.two_pow_add_eq_or_of_lt hq]
  exact wrap_u32_nat _ hP

/-- Four bytes as a word. -/
def joined (x0 x1 x2 x3 : Int) : Int := x0 * 16777216 + x1 * 65536 + x2 * 256 + x3
theorem joined_bounds {x0 x1 x2 x3 : Int} (h0 : 0 ≤ x0 ∧ x0 ≤ 255) (h1 : 0 ≤ x1 ∧ x1 ≤ 255) (h2 : 0 ≤ x2 ∧ x2 ≤ 255) (h3 : 0 ≤ x3 ∧ x3 ≤ 255) : 0 ≤ joined x0 x1 x2 x3 ∧ joined x0 x1 x2 x3 < 4294967296 := by
  unfold joined; omega

theorem or_joined (x0 x1 x2 x3 : Int) (h0 : 0 ≤ x0 ∧ x0 ≤ 255) (h1 : 0 ≤ x1 ∧ x1 ≤ 255) (h2 : 0 ≤ x2 ∧ x2 ≤ 255) (h3 : 0 ≤ x3 ∧ x3 ≤ 255) :
    bits .or .u32 (bits .or .u32 (bits .or .u32 (x0 % 4294967296 * 16777216 % 4294967296) (x1 % 4294967296 * 65536 % 4294967296)) (x2 % 4294967296 * 256 % 4294967296)) (x3 % 4294967296) = joined x0 x1 x2 x3 := by
  obtain ⟨a, rfl⟩ := Int.eq_ofNat_of_zero_le h0.1
  obtain ⟨b, rfl⟩ := Int.eq_ofNat_of_zero_le h1.1
  obtain ⟨c, rfl⟩ := Int.eq_ofNat_of_zero_le h2.1
  obtain ⟨d, rfl⟩ := Int.eq_ofNat_of_zero_le h3.1
  have e0 : ((a : Int) % 4294967296 * 16777216 % 4294967296) = ((2 ^ 24 * a : Nat) : Int) := by omega
  have e1 : ((b : Int) % 4294967296 * 65536 % 4294967296) = ((b * 65536 : Nat) : Int) := by omega
  have e2 : ((c : Int) % 4294967296 * 256 % 4294967296) = ((c * 256 : Nat) : Int) := by omega
  have e3 : ((d : Int) % 4294967296) = (d : Int) := by omega
  rw [e0, e1, e2, e3, or_low a (b * 65536) 24 (by omega) (by omega), show 2 ^ 24 * a + b * 65536 = 2 ^ 16 * (a * 256 + b) by omega,
    or_low (a * 256 + b) (c * 256) 16 (by omega) (by omega), show 2 ^ 16 * (a * 256 + b) + c * 256 = 2 ^ 8 * (a * 65536 + b * 256 + c) by omega,
    or_low (a * 65536 + b * 256 + c) d 8 (by omega) (by omega)]
  unfold joined
  omega

/-- A word's bytes, the highest first. -/
def four (z : Int) : List Int := [z / 16777216, z / 65536 % 256, z / 256 % 256, z % 256]
theorem four_joined {x0 x1 x2 x3 : Int} (h1 : 0 ≤ x1 ∧ x1 ≤ 255) (h2 : 0 ≤ x2 ∧ x2 ≤ 255) (h3 : 0 ≤ x3 ∧ x3 ≤ 255) : four (joined x0 x1 x2 x3) = [x0, x1, x2, x3] := by
  have a0 : joined x0 x1 x2 x3 / 16777216 = x0 := by unfold joined; omega
  have a1 : joined x0 x1 x2 x3 / 65536 % 256 = x1 := by unfold joined; omega
  have a2 : joined x0 x1 x2 x3 / 256 % 256 = x2 := by unfold joined; omega
  have a3 : joined x0 x1 x2 x3 % 256 = x3 := by unfold joined; omega
  unfold four
  rw [a0, a1, a2, a3]
theorem four_inj {a b : Int} (h : four a = four b) : a = b := by
  unfold four at h
  simp only [List.cons.injEq, and_true] at h
  omega
def fours (zs : List Int) : List Int := zs.flatMap four
theorem fours_length (zs : List Int) : (fours zs).length = 4 * zs.length := by
  induction zs with
  | nil => rfl
  | cons z zs ih => simp only [fours, List.flatMap_cons, List.length_append, List.length_cons] at *; rw [ih]; simp [four]; omega
theorem fours_append (a b : List Int) : fours (a ++ b) = fours a ++ fours b := by unfold fours; exact List.flatMap_append
theorem fours_snoc (zs : List Int) (k : Nat) (h : k < zs.length) : fours (zs.take (k + 1)) = fours (zs.take k) ++ four (zs.getD k 0) := by
  have e : zs.getD k 0 = zs[k] := by simp [List.getD, List.getElem?_eq_getElem h]
  unfold fours
  rw [e, List.take_succ_eq_append_getElem h, List.flatMap_append, List.flatMap_singleton]

/-- A text's byte, as a number. -/
def byteAt (s : ByteArray) (k : Nat) : Int := if h : k < s.size then ((s[k]'h).toNat : Int) else 0
theorem byteAt_lt (s : ByteArray) (k : Nat) (h : k < s.size) : ((s[k]'h).toNat : Int) = byteAt s k := by unfold byteAt; rw [dif_pos h]
theorem byteAt_bounds (s : ByteArray) (k : Nat) : 0 ≤ byteAt s k ∧ byteAt s k ≤ 255 := by
  unfold byteAt
  split
  · rename_i h
    have := (s[k]'h).toNat_lt
    omega
  · omega
def wordAt (s : ByteArray) (k : Nat) : Int := joined (byteAt s k) (byteAt s (k + 1)) (byteAt s (k + 2)) (byteAt s (k + 3))
theorem wordAt_bounds (s : ByteArray) (k : Nat) : 0 ≤ wordAt s k ∧ wordAt s k < 4294967296 :=
  joined_bounds (byteAt_bounds _ _) (byteAt_bounds _ _) (byteAt_bounds _ _) (byteAt_bounds _ _)
/-- A text's first n words. -/
def wordsTo (s : ByteArray) (n : Nat) : List Int := (List.range n).map fun k => wordAt s (4 * k)
theorem wordsTo_length (s : ByteArray) (n : Nat) : (wordsTo s n).length = n := by simp [wordsTo]
theorem wordsTo_succ (s : ByteArray) (n : Nat) : wordsTo s (n + 1) = wordsTo s n ++ [wordAt s (4 * n)] := by simp [wordsTo, List.range_succ]
theorem wordsTo_bounds (s : ByteArray) (n : Nat) : ∀ z ∈ wordsTo s n, 0 ≤ z ∧ z < 4294967296 := by
  intro z hz
  simp only [wordsTo, List.mem_map, List.mem_range] at hz
  obtain ⟨k, _, rfl⟩ := hz
  exact wordAt_bounds _ _
theorem fours_wordsTo (s : ByteArray) (n : Nat) : fours (wordsTo s n) = (List.range (4 * n)).map (byteAt s) := by
  induction n with
  | zero => rfl
  | succ n ih =>
    have e : fours [wordAt s (4 * n)] = [byteAt s (4 * n), byteAt s (4 * n + 1), byteAt s (4 * n + 2), byteAt s (4 * n + 3)] := by
      unfold fours wordAt
      rw [List.flatMap_singleton, four_joined (byteAt_bounds _ _) (byteAt_bounds _ _) (byteAt_bounds _ _)]
    rw [wordsTo_succ, fours_append, ih, e]
    have e4 : List.range (4 * (n + 1)) = List.range (4 * n) ++ [4 * n, 4 * n + 1, 4 * n + 2, 4 * n + 3] := by
      rw [show 4 * (n + 1) = 4 * n + 4 by omega, List.range_succ, List.range_succ, List.range_succ, List.range_succ]
      simp
    rw [e4, List.map_append]
    rfl
theorem strOfNums_bytes (s : ByteArray) : strOfNums ((List.range s.size).map (byteAt s)) = s := by
  have hl : (s.data.toList) = ((List.range s.size).map (byteAt s)).map fun n => UInt8.ofNat n.toNat := by
    apply List.ext_getElem
    · rw [List.length_map, List.length_map, List.length_range]; rfl
    · intro i h1 h2
      have hi : i < s.size := h1
      rw [List.getElem_map, List.getElem_map, List.getElem_range, ← byteAt_lt s i hi, Int.toNat_natCast, UInt8.ofNat_toNat]
      rfl
  unfold strOfNums
  rw [← hl]
theorem strOfNums_words (s : ByteArray) (h : s.size = 64) : strOfNums (fours (wordsTo s 16)) = s := by
  rw [fours_wordsTo, show 4 * 16 = s.size from h.symm]
  exact strOfNums_bytes s
theorem strOfNums_four_inj {a b : Int} (ha : 0 ≤ a ∧ a < 4294967296) (hb : 0 ≤ b ∧ b < 4294967296) (h : strOfNums (four a) = strOfNums (four b)) : a = b := by
  have h' : (strOfNums (four a)).data.toList = (strOfNums (four b)).data.toList := by rw [h]
  simp only [strOfNums_data, four, List.map_cons, List.map_nil, List.cons.injEq, and_true] at h'
  obtain ⟨h0, h1, h2, h3⟩ := h'
  have key : ∀ x y : Int, 0 ≤ x → x < 256 → 0 ≤ y → y < 256 → UInt8.ofNat x.toNat = UInt8.ofNat y.toNat → x = y := by
    intro x y hx hx2 hy hy2 h
    have := congrArg UInt8.toNat h
    simp at this
    omega
  have k0 := key _ _ (by omega) (by omega) (by omega) (by omega) h0
  have k1 := key _ _ (by omega) (by omega) (by omega) (by omega) h1
  have k2 := key _ _ (by omega) (by omega) (by omega) (by omega) h2
  have k3 := key _ _ (by omega) (by omega) (by omega) (by omega) h3
  omega
end Go.Proofs.YtgoodhiclkbclaaRRRR
