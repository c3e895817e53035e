/- Words of 32 bits: what the model's bit operations come to when a word is turned right; turned twice it is turned by both together. Plain mathematics, no conditions but that a word fits 32 bits. -/
import Derived.Laws.BytesArg
import Derived.WalkKit
namespace Go.Proofs.YtgoodhiclkbclaaRRRR
theorem wrap_u32_nat (n : Nat) (h : n < 4294967296) : IntKind.u32.wrap (n : Int) = n := by
  simp [IntKind.wrap, IntKind.bits, IntKind.signed]; omega
theorem wrap_u64_nat (n : Nat) (h : n < 18446744073709551616) : IntKind.u64.wrap (n : Int) = n := by
  simp [IntKind.wrap, IntKind.bits, IntKind.signed]; omega

theorem and31 (n : Int) : bits .and .u64 (IntKind.u64.wrap n) 31 = n % 32 := by
  have e : bits .and .u64 (IntKind.u64.wrap n) 31 = IntKind.u64.wrap ((BitVec.ofInt 64 (IntKind.u64.wrap n) &&& BitVec.ofInt 64 31).toNat : Int) := rfl
  rw [e, BitVec.toNat_and]
  have h31 : (BitVec.ofInt 64 31).toNat = 2 ^ 5 - 1 := by decide
  rw [h31, Nat.and_two_pow_sub_one_eq_mod, wrap_u64_nat _ (by omega)]
  have hw : IntKind.u64.wrap n = n % 18446744073709551616 := by simp [IntKind.wrap, IntKind.bits, IntKind.signed]
  rw [hw, BitVec.toNat_ofInt]
  omega

theorem ofInt_nat32 (x : Nat) : BitVec.ofInt 32 (x : Int) = BitVec.ofNat 32 x := by
  simp

theorem or_rot (a r : Int) (ha : 0 ≤ a) (ha2 : a < 4294967296) (h0 : 0 ≤ r) (h1 : r < 32) :
    bits .or .u32 (a / 2 ^ r.toNat) (a * 2 ^ (32 - r).toNat % 4294967296) = (((BitVec.ofInt 32 a).rotateRight r.toNat).toNat : Int) := by
  obtain ⟨x, rfl⟩ := Int.eq_ofNat_of_zero_le ha
  obtain ⟨k, rfl⟩ := Int.eq_ofNat_of_zero_le h0
  have hx : x < 4294967296 := by omega
  have hk : k < 32 := by omega
  have e32 : ((32 : Int) - (k : Int)).toNat = 32 - k := by omega
  rw [e32, Int.toNat_natCast]
  have s1 : ((x : Int) / 2 ^ k) = ((x / 2 ^ k : Nat) : Int) := by simp
  have s2 : ((x : Int) * 2 ^ (32 - k) % 4294967296) = ((x * 2 ^ (32 - k) % 4294967296 : Nat) : Int) := by simp
  rw [s1, s2]
  have e : bits .or .u32 ((x / 2 ^ k : Nat) : Int) ((x * 2 ^ (32 - k) % 4294967296 : Nat) : Int) =
      IntKind.u32.wrap ((BitVec.ofInt 32 ((x / 2 ^ k : Nat) : Int) ||| BitVec.ofInt 32 ((x * 2 ^ (32 - k) % 4294967296 : Nat) : Int)).toNat : Int) := rfl
  have hr : (BitVec.ofInt 32 (x : Int)).rotateRight k = (BitVec.ofInt 32 (x : Int)) >>> k ||| (BitVec.ofInt 32 (x : Int)) <<< (32 - k) := by
    rw [BitVec.rotateRight_def, Nat.mod_eq_of_lt hk]
  have a1 : BitVec.ofInt 32 ((x / 2 ^ k : Nat) : Int) = (BitVec.ofInt 32 (x : Int)) >>> k := by
    apply BitVec.eq_of_toNat_eq
    rw [ofInt_nat32, ofInt_nat32, BitVec.toNat_ushiftRight, BitVec.toNat_ofNat, BitVec.toNat_ofNat, Nat.shiftRight_eq_div_pow, Nat.mod_eq_of_lt (show x < 2 ^ 32 by omega)]
    exact Nat.mod_eq_of_lt (Nat.lt_of_le_of_lt (Nat.div_le_self _ _) (by omega))
  have a2 : BitVec.ofInt 32 ((x * 2 ^ (32 - k) % 4294967296 : Nat) : Int) = (BitVec.ofInt 32 (x : Int)) <<< (32 - k) := by
    apply BitVec.eq_of_toNat_eq
    rw [ofInt_nat32, ofInt_nat32, BitVec.toNat_shiftLeft, BitVec.toNat_ofNat, BitVec.toNat_ofNat, Nat.shiftLeft_eq, Nat.mod_eq_of_lt (show x < 2 ^ 32 by omega)]
    omega
  rw [e, hr, a1, a2]
  exact wrap_u32_nat _ (BitVec.isLt _)

/-- turned right -/
def rotb (x : BitVec 32) (n : Int) : BitVec 32 := x.rotateRight (n % 32).toNat
theorem rotb_bit (x : BitVec 32) (n : Int) (i : Nat) (hi : i < 32) : (rotb x n).getLsbD i = x.getLsbD ((i + (n % 32).toNat) % 32) := by
  unfold rotb
  rw [BitVec.getLsbD_rotateRight]
  have h : (n % 32).toNat < 32 := by omega
  rw [Nat.mod_eq_of_lt h]
  by_cases hc : i < 32 - (n % 32).toNat
  · simp only [hc, decide_true, cond_true]
    rw [Nat.mod_eq_of_lt (by omega), Nat.add_comm]
  · have he : i + (n % 32).toNat = (i - (32 - (n % 32).toNat)) + 32 := by omega
    simp only [hc, hi, decide_true, decide_false, cond_false, Bool.true_and]
    rw [he, Nat.add_mod_right, Nat.mod_eq_of_lt (by omega)]
theorem rotb_rotb (x : BitVec 32) (n m : Int) : rotb (rotb x n) m = rotb x (n + m) := by
  apply BitVec.eq_of_getLsbD_eq
  intro i hi
  rw [rotb_bit _ _ _ hi, rotb_bit _ _ _ hi, rotb_bit _ _ _ (Nat.mod_lt _ (by omega))]
  congr 1
  omega
theorem rotb_zero (x : BitVec 32) (n : Int) (h : n % 32 = 0) : rotb x n = x := by
  apply BitVec.eq_of_getLsbD_eq
  intro i hi
  rw [rotb_bit _ _ _ hi, h]
  congr 1
  omega
def rot (a n : Int) : Int := ((rotb (BitVec.ofInt 32 a) n).toNat : Int)
theorem rot_bounds (a n : Int) : 0 ≤ rot a n ∧ rot a n < 4294967296 := by
  unfold rot; have := (rotb (BitVec.ofInt 32 a) n).isLt; omega
theorem ofInt_rot (a n : Int) : BitVec.ofInt 32 (rot a n) = rotb (BitVec.ofInt 32 a) n := by
  unfold rot; simp
theorem rot_rot (a n m : Int) : rot (rot a n) m = rot a (n + m) := by
  unfold rot; rw [← rotb_rotb]; simp
theorem rot_zero (a n : Int) (h : n % 32 = 0) (ha : 0 ≤ a) (ha2 : a < 4294967296) : rot a n = a := by
  unfold rot; rw [rotb_zero _ _ h, BitVec.toNat_ofInt]; omega
end Go.Proofs.YtgoodhiclkbclaaRRRR
