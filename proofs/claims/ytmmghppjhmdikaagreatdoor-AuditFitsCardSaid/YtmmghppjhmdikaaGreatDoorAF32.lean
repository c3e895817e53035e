/- Figures of numbers, and what is read of texts, as lists of bytes: what is printed of a date is read as it. No program is spoken of. -/
import Derived.Test.YtmmghppjhmdikaaGreatDoorAF1
import Derived.Lib.ItoaNum
import Derived.Lib.Repeat
import Derived.Lib.Strings
namespace Go.Proofs.YtmmghppjhmdikaaGreatDoor.Cal
open Go

/-- A number's last figures, so many. -/
def pad : Nat → Nat → List UInt8
  | 0, _ => []
  | k + 1, n => pad k (n / 10) ++ [UInt8.ofNat (48 + n % 10)]
theorem pad_length : ∀ k n, (pad k n).length = k
  | 0, _ => rfl
  | k + 1, n => by simp [pad, pad_length k (n / 10)]
theorem pad_dec : ∀ (k n : Nat), 0 < k → n < 10 ^ k → (Lib.decDigits n).length ≤ k ∧ List.replicate (k - (Lib.decDigits n).length) 48 ++ Lib.decDigits n = pad k n
  | 0, _, h, _ => absurd h (by omega)
  | k + 1, n, _, hn => by
    by_cases h10 : n < 10
    · rw [Lib.decDigits_one h10]
      refine ⟨by simp, ?_⟩
      have hp : ∀ j, pad j 0 = List.replicate j 48 := by
        intro j
        induction j with
        | zero => rfl
        | succ j ih => simp only [pad, Nat.zero_div, ih]; rw [List.replicate_succ']; rfl
      simp only [pad]
      rw [show n / 10 = 0 by omega, hp, show n % 10 = n by omega]
      simp
    · have hk : 0 < k := by
        rcases k with _ | k
        · simp at hn; omega
        · omega
      obtain ⟨h1, h2⟩ := pad_dec k (n / 10) hk (by rw [Nat.pow_succ] at hn; omega)
      have e : Lib.decDigits n = Lib.decDigits (n / 10) ++ [UInt8.ofNat (48 + n % 10)] := by rw [Lib.decDigits, dif_neg h10]
      rw [e, List.length_append, List.length_singleton]
      refine ⟨by omega, ?_⟩
      simp only [pad]
      rw [← h2, List.append_assoc, show k + 1 - ((Lib.decDigits (n / 10)).length + 1) = k - (Lib.decDigits (n / 10)).length by omega]

/-! ### what is read -/
def isDig (c : UInt8) : Bool := decide (48 ≤ (c.toNat : Int) ∧ (c.toNat : Int) ≤ 57)
/-- How many figures a text begins with, so many at most. -/
def figs : List UInt8 → Nat → Nat
  | _, 0 => 0
  | [], _ + 1 => 0
  | c :: l, n + 1 => if isDig c = true then figs l n + 1 else 0
theorem figs_le : ∀ (l : List UInt8) (n : Nat), figs l n ≤ n ∧ figs l n ≤ l.length
  | _, 0 => by unfold figs; simp
  | [], _ + 1 => by simp [figs]
  | c :: l, n + 1 => by
    have := figs_le l n
    simp only [figs, List.length_cons]
    split <;> omega
theorem figs_all : ∀ (l : List UInt8) (n : Nat), n ≤ figs l n → ∀ c ∈ l.take n, isDig c = true
  | _, 0, _ => by simp
  | [], _ + 1, _ => by simp
  | c :: l, n + 1, h => by
    simp only [figs] at h
    split at h
    · rename_i hc
      intro x hx
      rw [List.take_succ_cons, List.mem_cons] at hx
      rcases hx with rfl | hx
      · exact hc
      · exact figs_all l n (by omega) x hx
    · omega
theorem figs_front : ∀ (a b : List UInt8), (∀ c ∈ a, isDig c = true) → figs (a ++ b) a.length = a.length
  | [], b, _ => by unfold figs; rfl
  | c :: a, b, h => by
    simp only [List.cons_append, List.length_cons, figs]
    rw [if_pos (h c (by simp)), figs_front a b (fun x hx => h x (by simp [hx]))]
def numOf (l : List UInt8) : Int := l.foldl (fun a c => 10 * a + ((c.toNat : Int) - 48)) 0
theorem numOf_snoc (l : List UInt8) (c : UInt8) : numOf (l ++ [c]) = 10 * numOf l + ((c.toNat : Int) - 48) := by simp [numOf]
theorem numOf_bd_rev : ∀ t : List UInt8, (∀ c ∈ t.reverse, isDig c = true) → 0 ≤ numOf t.reverse ∧ numOf t.reverse < (10 : Int) ^ t.reverse.length
  | [], _ => by simp [numOf]
  | c :: t, h => by
    rw [List.reverse_cons] at h ⊢
    obtain ⟨i1, i2⟩ := numOf_bd_rev t (fun x hx => h x (List.mem_append_left _ hx))
    have hc : 48 ≤ (c.toNat : Int) ∧ (c.toNat : Int) ≤ 57 := of_decide_eq_true (h c (by simp))
    rw [numOf_snoc, List.length_append, List.length_singleton, Int.pow_succ]
    omega
theorem numOf_bd (l : List UInt8) (h : ∀ c ∈ l, isDig c = true) : 0 ≤ numOf l ∧ numOf l < (10 : Int) ^ l.length := by
  have := numOf_bd_rev l.reverse
  rw [List.reverse_reverse] at this
  exact this h
theorem dig_of (n : Nat) : (UInt8.ofNat (48 + n % 10)).toNat = 48 + n % 10 := by simp; omega
theorem pad_digs : ∀ k n, ∀ c ∈ pad k n, isDig c = true
  | 0, _ => by simp [pad]
  | k + 1, n => by
    intro c hc
    simp only [pad, List.mem_append, List.mem_singleton] at hc
    rcases hc with hc | rfl
    · exact pad_digs k (n / 10) c hc
    · unfold isDig; rw [dig_of, decide_eq_true_iff]; omega
theorem numOf_pad : ∀ k n, n < 10 ^ k → numOf (pad k n) = n
  | 0, n, h => by simp at h; simp [pad, numOf, h]
  | k + 1, n, h => by
    simp only [pad]
    rw [numOf_snoc, numOf_pad k (n / 10) (by rw [Nat.pow_succ] at h; omega), dig_of]
    omega

/-- The number of so many figures behind a sign: what it is, what is left, whether all fits. -/
def tk (sg : List UInt8) (k : Nat) (r : List UInt8) (f : Bool) : Int × List UInt8 × Bool :=
  if (f && Lib.hasPrefix r sg && decide (figs (Lib.trimPrefix r sg) k = k)) = true then (numOf ((Lib.trimPrefix r sg).take k), (Lib.trimPrefix r sg).drop k, true) else (0, r, false)
theorem hasPrefix_front (p l : List UInt8) : Lib.hasPrefix (p ++ l) p = true := by
  unfold Lib.hasPrefix; rw [List.isPrefixOf_iff_prefix]; exact List.prefix_append p l
theorem trimPrefix_front (p l : List UInt8) : Lib.trimPrefix (p ++ l) p = l := by
  unfold Lib.trimPrefix; rw [if_pos (hasPrefix_front p l)]; simp
theorem tk_pad (sg : List UInt8) (k n : Nat) (l : List UInt8) (h : n < 10 ^ k) : tk sg k (sg ++ (pad k n ++ l)) true = ((n : Int), l, true) := by
  unfold tk
  have e : figs (pad k n ++ l) k = k := by have := figs_front (pad k n) l (pad_digs k n); rwa [pad_length] at this
  have hl := pad_length k n
  rw [hasPrefix_front, trimPrefix_front, e]
  simp only [Bool.and_self, decide_true, if_true]
  rw [List.take_append_of_le_length (by omega), List.take_of_length_le (by omega), numOf_pad k n h, List.drop_append_of_le_length (by omega), List.drop_of_length_le (by omega), List.nil_append]
theorem trim_suffix (r sg : List UInt8) : ∃ p, r = p ++ Lib.trimPrefix r sg := by
  unfold Lib.trimPrefix
  split
  · exact ⟨r.take sg.length, by rw [List.take_append_drop]⟩
  · exact ⟨[], rfl⟩
theorem tk_suffix (sg : List UInt8) (k : Nat) (r : List UInt8) (f : Bool) : ∃ p, r = p ++ (tk sg k r f).2.1 := by
  unfold tk
  split
  · obtain ⟨p, hp⟩ := trim_suffix r sg
    refine ⟨p ++ (Lib.trimPrefix r sg).take k, ?_⟩
    simp only [List.append_assoc, List.take_append_drop]
    exact hp
  · exact ⟨[], rfl⟩
theorem tk_shorter (sg : List UInt8) (k : Nat) (r : List UInt8) (f : Bool) (hk : 0 < k) (h : (tk sg k r f).2.2 = true) : (tk sg k r f).2.1.length < r.length := by
  unfold tk at h ⊢
  split
  · rename_i hc
    obtain ⟨p, hp⟩ := trim_suffix r sg
    have hr : r.length = p.length + (Lib.trimPrefix r sg).length := by conv => lhs; rw [hp, List.length_append]
    simp only [Bool.and_eq_true, decide_eq_true_iff] at hc
    have := (figs_le (Lib.trimPrefix r sg) k).2
    rw [hc.2] at this
    simp only [List.length_drop]
    omega
  · rename_i hc
    rw [if_neg hc] at h
    cases h
theorem tk_bd (sg : List UInt8) (k : Nat) (r : List UInt8) (f : Bool) : 0 ≤ (tk sg k r f).1 ∧ (tk sg k r f).1 < (10 : Int) ^ k := by
  have hpos : (0 : Int) < 10 ^ k := Int.pow_pos (by decide)
  unfold tk
  split
  · rename_i hc
    simp only [Bool.and_eq_true, decide_eq_true_iff] at hc
    have hall := figs_all (Lib.trimPrefix r sg) k (by omega)
    have hl : ((Lib.trimPrefix r sg).take k).length = k := by
      rw [List.length_take]; have := (figs_le (Lib.trimPrefix r sg) k).2; omega
    have := numOf_bd _ hall
    rwa [hl] at this
  · exact ⟨Int.le_refl _, hpos⟩
theorem tk_false (sg : List UInt8) (k : Nat) (r : List UInt8) : tk sg k r false = (0, r, false) := by unfold tk; simp
end Go.Proofs.YtmmghppjhmdikaaGreatDoor.Cal
