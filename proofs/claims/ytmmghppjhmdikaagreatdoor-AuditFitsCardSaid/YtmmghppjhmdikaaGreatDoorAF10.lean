/- The texts CalPrinted, TimeText, Joined, one behind the other. -/
import Derived.Test.YtmmghppjhmdikaaGreatDoorAF8
import Derived.Test.YtmmghppjhmdikaaGreatDoorAF4
import Derived.Test.YtmmghppjhmdikaaGreatDoorAF1
import Derived.Deep.RegionHeld3
import Derived.Test.YtmmghppjhmdikaaGreatDoorAF7
/- What sysl.joined and sysl.textBehind answer: the parts, one behind the other. -/
namespace Go.Proofs.YtmmghppjhmdikaaGreatDoor
open Go.ChangeShapes Go.WideShapes Go.ChangeAt Go.RowKit

/-- Parts, one behind the other. -/
def flatL (xs : List ByteArray) : List UInt8 := xs.flatMap fun x => x.data.toList
theorem flatL_append (a b : List ByteArray) : flatL (a ++ b) = flatL a ++ flatL b := by simp [flatL]
theorem join_flat : ∀ xs : List ByteArray, Lib.join (xs.map fun x => x.data.toList) [] = flatL xs
  | [] => rfl
  | [x] => by simp [Lib.join, flatL]
  | x :: y :: xs => by
    have ih := join_flat (y :: xs)
    simp [Lib.join, flatL] at ih ⊢
    exact ih
def strs (xs : List ByteArray) : List Value := xs.map Value.string
/-- The text that stands behind the elements. -/
def behindT (t : List UInt8) : List UInt8 := if t = [] then [] else 32 :: 239 :: 187 :: 191 :: t
end Go.Proofs.YtmmghppjhmdikaaGreatDoor
/- What cal.Text answers: a date's text. Conditions: the table of months' lengths, and the library's table of powers of ten, stand. -/
namespace Go.Proofs.YtmmghppjhmdikaaGreatDoor.Cal
open Go.ChangeShapes Go.WideShapes Go.ChangeAt Go.RowKit

theorem gPow : Tryz.prog.globalNamed "internal/strconv.uint64pow10" = some 6 := by kernel_rfl
/-- The library's table of powers of ten stands. -/
def Pow (w : World) : Prop := 6 < w.heap.size ∧ Lib.TabIs Tryz.prog w "internal/strconv.uint64pow10" .u64 Lib.pow10Tab
theorem Pow.below {w w' : World} (h : Pow w) (b : Below w.heap.size w w') : Pow w' := by
  refine ⟨Nat.lt_of_lt_of_le h.1 b.size, ?_⟩
  have h2 := h.2
  unfold Lib.TabIs World.var? at h2 ⊢
  rw [gPow] at h2 ⊢
  simp only [Option.bind_some] at h2 ⊢
  rw [b.block 6 h.1]
  exact h2
theorem Pow.alloc {w : World} (h : Pow w) (o) : Pow (w.alloc o) := h.below ((Below.refl _ _).alloc (Nat.le_refl _) _)
theorem grown_below (w : World) (k : Nat) (os : Array Obj) : Below w.heap.size w (Go.Sort.grow (w.drewN k) os) :=
  ⟨rfl, rfl, rfl, by show w.heap.size ≤ (w.heap ++ os).size; simp, fun j hj => by
    show (w.heap ++ os)[j]? = w.heap[j]?
    rw [Array.getElem?_append_left hj]⟩
theorem bytes_append (a b : List UInt8) : bytes a ++ bytes b = bytes (a ++ b) := by
  apply ByteArray.ext
  rw [ByteArray.data_append]
  simp [bytes]
theorem repeat_zeros (c : Nat) : Lib.repeatL [48] c = List.replicate c 48 := by
  have := Lib.repeatL_replicate 48 1 c
  simpa using this
theorem itoa_any (n : Nat) (w : World) (hp : Pow w) (hn : n < 1000000) : Calls Tryz.prog 43 #[.int .i64 n] w fun e w' => e = .returned (.string (bytes (Lib.decDigits n))) ∧ Below w.heap.size w w' := by
  refine (Tryz.strconv_Itoa (n : Int) (by omega) (by omega) w hp.2).mono ?_
  rintro e w' ⟨rfl, k, os, rfl⟩
  refine ⟨?_, grown_below w k os⟩
  unfold Lib.itoa
  rw [if_neg (by omega)]
  rfl
/-! ### what is held while a text is put together -/
theorem held8_next {w6 W w' : World} {b : Nat} {c0 c1 c2 c3 c4 c5 c6 c7 : Value} (h : W.cell? ⟨b, 0, none⟩ = some c0 ∧ W.cell? ⟨b, 1, none⟩ = some c1 ∧ W.cell? ⟨b, 2, none⟩ = some c2 ∧ W.cell? ⟨b, 3, none⟩ = some c3 ∧ W.cell? ⟨b, 4, none⟩ = some c4 ∧ W.cell? ⟨b, 5, none⟩ = some c5 ∧ W.cell? ⟨b, 6, none⟩ = some c6 ∧ W.cell? ⟨b, 7, none⟩ = some c7 ∧ Below w6.heap.size w6 W) (hlt : b < w6.heap.size) (hb : Below W.heap.size W w') :
    w'.cell? ⟨b, 0, none⟩ = some c0 ∧ w'.cell? ⟨b, 1, none⟩ = some c1 ∧ w'.cell? ⟨b, 2, none⟩ = some c2 ∧ w'.cell? ⟨b, 3, none⟩ = some c3 ∧ w'.cell? ⟨b, 4, none⟩ = some c4 ∧ w'.cell? ⟨b, 5, none⟩ = some c5 ∧ w'.cell? ⟨b, 6, none⟩ = some c6 ∧ w'.cell? ⟨b, 7, none⟩ = some c7 ∧ Below w6.heap.size w6 w' := by
  obtain ⟨h0, h1, h2, h3, h4, h5, h6, h7, hB⟩ := h
  have hl : b < W.heap.size := Nat.lt_of_lt_of_le hlt hB.size
  obtain ⟨hc, _⟩ := bcell hb
  exact ⟨(hc b 0 hl).trans h0, (hc b 1 hl).trans h1, (hc b 2 hl).trans h2, (hc b 3 hl).trans h3, (hc b 4 hl).trans h4, (hc b 5 hl).trans h5, (hc b 6 hl).trans h6, (hc b 7 hl).trans h7, hB.trans (hb.mono hB.size)⟩
theorem held8_below {w6 W : World} {b : Nat} {c0 c1 c2 c3 c4 c5 c6 c7 : Value} (h : W.cell? ⟨b, 0, none⟩ = some c0 ∧ W.cell? ⟨b, 1, none⟩ = some c1 ∧ W.cell? ⟨b, 2, none⟩ = some c2 ∧ W.cell? ⟨b, 3, none⟩ = some c3 ∧ W.cell? ⟨b, 4, none⟩ = some c4 ∧ W.cell? ⟨b, 5, none⟩ = some c5 ∧ W.cell? ⟨b, 6, none⟩ = some c6 ∧ W.cell? ⟨b, 7, none⟩ = some c7 ∧ Below w6.heap.size w6 W) : Below w6.heap.size w6 W := by
  obtain ⟨_, _, _, _, _, _, _, _, hB⟩ := h
  exact hB
theorem held8_pow {w6 W : World} {b : Nat} {c0 c1 c2 c3 c4 c5 c6 c7 : Value} (hp : Pow w6) (h : W.cell? ⟨b, 0, none⟩ = some c0 ∧ W.cell? ⟨b, 1, none⟩ = some c1 ∧ W.cell? ⟨b, 2, none⟩ = some c2 ∧ W.cell? ⟨b, 3, none⟩ = some c3 ∧ W.cell? ⟨b, 4, none⟩ = some c4 ∧ W.cell? ⟨b, 5, none⟩ = some c5 ∧ W.cell? ⟨b, 6, none⟩ = some c6 ∧ W.cell? ⟨b, 7, none⟩ = some c7 ∧ Below w6.heap.size w6 W) : Pow W := hp.below (held8_below h)
theorem named_pad (k n : Nat) : ∃ A : ByteArray, bytes (pad k n) = A ∧ A.size ≤ k := ⟨_, rfl, by rw [bytes_size, pad_length]; exact Nat.le_refl _⟩
end Go.Proofs.YtmmghppjhmdikaaGreatDoor.Cal
/- What sysl.timeText answers of a right event: the text of its moment's date. Conditions: the tables stand. -/
namespace Go.Proofs.YtmmghppjhmdikaaGreatDoor
open Go.ChangeShapes Go.WideShapes Go.ChangeAt Go.RowKit
open Cal (clamp DateIs dateText nanosI rightB)

/-- The text of an event's moment. -/
def TimeIs (td : Bool) (a : Int) (T : List UInt8) : Prop := (td = false ∧ T = [45]) ∨ (td = true ∧ ∃ y m d h i s k, DateIs (clamp a) y m d h i s k ∧ T = dateText y m d h i s k 0)
end Go.Proofs.YtmmghppjhmdikaaGreatDoor
