/- Words, names and values of messages, as lists of bytes. No program is spoken of. -/
import Derived.Lib.IndexAny
import Derived.Lib.Hide
namespace Go.Proofs.YtmmghppjhmdikaaGreatDoor
open Go

def bytes (l : List UInt8) : ByteArray := ⟨l.toArray⟩
theorem bytes_size (l : List UInt8) : (bytes l).size = l.length := by show l.toArray.size = _; simp
theorem bytes_list (l : List UInt8) : (bytes l).data.toList = l := rfl
theorem bytes_self (s : ByteArray) : bytes s.data.toList = s := by cases s; rfl
theorem list_size (s : ByteArray) : s.data.toList.length = s.size := by rw [Array.length_toList]; rfl
theorem drop_at (s : ByteArray) (k : Nat) (h : k < s.size) : s.data.toList.drop k = s[k] :: s.data.toList.drop (k + 1) := by
  rw [List.drop_eq_getElem_cons (by rw [Array.length_toList]; exact h)]
  rfl
theorem take_at (s : ByteArray) (k : Nat) (h : k < s.size) : s.data.toList.take (k + 1) = s.data.toList.take k ++ [s[k]] := by
  rw [List.take_succ_eq_append_getElem (by simpa using h)]; rfl
theorem take_all (s : ByteArray) : s.data.toList.take s.size = s.data.toList := List.take_of_length_le (by rw [list_size]; exact Nat.le_refl _)

/-- May a byte stand in a word? -/
def wordByte (c : UInt8) : Bool := decide (33 ≤ (c.toNat : Int) ∧ (c.toNat : Int) ≤ 126)
def plainB (l : List UInt8) (most : Int) : Bool := decide (0 < l.length ∧ (l.length : Int) ≤ most) && l.all wordByte
/-- Does a byte of a value have a mark ahead? -/
def marked (c : UInt8) : Bool := c == 34 || c == 92 || c == 93
def valueL (l : List UInt8) : List UInt8 := l.flatMap fun c => if marked c = true then [92, c] else [c]
def wordB (l : List UInt8) (most : Int) : Bool := decide (l = []) || (decide (l ≠ [45]) && plainB l most)
def nameB (l : List UInt8) : Bool := plainB l 32 && !(Lib.containsAny l [61, 93, 34])
theorem plain_ascii {l : List UInt8} {m : Int} (h : plainB l m = true) (j : Nat) (b : UInt8) (hb : l[j]? = some b) : b.toNat < 128 := by
  unfold plainB at h
  rw [Bool.and_eq_true] at h
  have := List.all_eq_true.1 h.2 b (List.mem_of_getElem? hb)
  have := of_decide_eq_true this
  omega
theorem plain_len {l : List UInt8} {m : Int} (h : plainB l m = true) : 0 < l.length ∧ (l.length : Int) ≤ m := by
  unfold plainB at h
  rw [Bool.and_eq_true] at h
  exact of_decide_eq_true h.1
end Go.Proofs.YtmmghppjhmdikaaGreatDoor
