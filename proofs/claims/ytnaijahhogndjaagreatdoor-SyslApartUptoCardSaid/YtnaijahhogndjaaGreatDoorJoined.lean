/- What sysl.joined and sysl.textBehind answer: the parts, one behind the other. -/
import Derived.Test.YtnaijahhogndjaaGreatDoorShelf2
import Derived.Test.YtnaijahhogndjaaGreatDoorTakes
namespace Go.Proofs.YtnaijahhogndjaaGreatDoor
open Go.ChangeShapes Go.WideShapes Go.ChangeAt Go.RowKit

/-- Parts, one behind the other. -/
def flatL (xs : List ByteArray) : List UInt8 := xs.flatMap fun x => x.data.toList
theorem flatL_append (a b : List ByteArray) : flatL (a ++ b) = flatL a ++ flatL b := by simp [flatL]
theorem join_flat : ∀ xs : List ByteArray, Lib.join (xs.map fun x => x.data.toList) [] = flatL xs
  | [] => rfl
  | [x] => by simp [Lib.join, flatL]
  | x :: y :: xs => by
    have ih := join_flat (y :: xs)
    simp [Lib.join, flatL] at ih ⊢
    exact ih
def strs (xs : List ByteArray) : List Value := xs.map Value.string
set_option maxHeartbeats 1000000 in
set_option maxRecDepth 100000 in
theorem joined_row (bk c : Nat) (xs : List ByteArray) (w : World) (hcells : ∀ (j : Nat) x, xs[j]? = some x → w.cell? ⟨bk, j, none⟩ = some (.string x)) (hbk : bk < w.heap.size) (hcap : xs.length ≤ c) (hn : xs.length ≤ 140737488355328) (hlen : (flatL xs).length ≤ 140737488355328) :
    Calls Tryz.prog 27 #[.slice (some ⟨bk, 0, none⟩) xs.length c] w fun e w' => e = .returned (.string (bytes (flatL xs))) ∧ Below w.heap.size w w' := by
  have h := Tryz.strings_Join bk 0 c xs ⟨#[]⟩ w (fun j x hx => by rw [Nat.zero_add]; exact hcells j x hx) hbk hn hcap (by
    show (Lib.join (xs.map fun x => x.data.toList) []).length ≤ _
    rw [join_flat]; exact hlen)
  have e : Lib.join (xs.map (·.data.toList)) (⟨#[]⟩ : ByteArray).data.toList = flatL xs := join_flat xs
  rw [e] at h
  have H := Lib.hid h
  clear h hcells
  go_enter Tryz.func27, Tryz.ntmps27
  go_wp2_with fail
  refine H.out.mono ?_
  rintro e w' ⟨rfl, hb⟩
  go_wp2
  go_ret
  exact ⟨rfl, hb⟩
/-- The text that stands behind the elements. -/
def behindT (t : List UInt8) : List UInt8 := if t = [] then [] else 32 :: 239 :: 187 :: 191 :: t
set_option maxHeartbeats 1000000 in
set_option maxRecDepth 100000 in
theorem textBehind_any (s : ByteArray) (w : World) (hs : s.size ≤ 70368744177664) : Calls Tryz.prog 31 #[.string s] w fun e w' => e = .returned (.string (bytes (behindT s.data.toList))) ∧ Below w.heap.size w w' := by
  by_cases h0 : s.size = 0
  · have hq := empty_of h0
    have hl : s.data.toList = [] := List.eq_nil_of_length_eq_zero (by rw [list_size]; exact h0)
    rw [hl]
    go_enter Tryz.func31, Tryz.ntmps31
    go_wp2
    go_ret
    exact ⟨rfl, Below.refl _ _⟩
  · have hq := full_of (s := s) (by omega)
    have hl : s.data.toList ≠ [] := fun h => h0 (by rw [← list_size, h]; rfl)
    have hf : flatL [⟨#[32]⟩, ⟨#[239, 187, 191]⟩, s] = behindT s.data.toList := by
      unfold behindT; rw [if_neg hl]; simp [flatL]
    have H := Lib.hid (joined_row w.heap.size 3 [⟨#[32]⟩, ⟨#[239, 187, 191]⟩, s] (w.alloc (.cells #[.string ⟨#[32]⟩, .string ⟨#[239, 187, 191]⟩, .string s] 9)) (fun j x hx => by
      rw [cell_of_row _ _ j #[.string ⟨#[32]⟩, .string ⟨#[239, 187, 191]⟩, .string s] 9 (0, 0) (heap_alloc_last w _)]
      match j, hx with
      | 0, hx => cases hx; rfl
      | 1, hx => cases hx; rfl
      | 2, hx => cases hx; rfl
      | j + 3, hx => simp at hx) (by simp) (Nat.le_refl 3) (show (3 : Nat) ≤ 140737488355328 by decide) (by
        have e : (flatL [⟨#[32]⟩, ⟨#[239, 187, 191]⟩, s]).length = s.size + 4 := by simp [flatL]
        rw [e]; omega))
    rw [hf] at H
    clear hf hl h0
    go_enter Tryz.func31, Tryz.ntmps31
    go_wp2_with fail
    refine H.out.mono ?_
    rintro e w' ⟨rfl, hb⟩
    go_wp2
    go_ret
    exact ⟨rfl, ((Below.refl _ _).alloc (Nat.le_refl _) _).trans (hb.mono (by simp))⟩
end Go.Proofs.YtnaijahhogndjaaGreatDoor
