/- What New of package disk answers: a disk of as many sectors of bytes of 0, or ErrArg. No conditions. -/
import Derived.Test.YtpkoonokagchgaaRep
namespace Go.Proofs.Ytpkoonokagchgaa
open Go.ChangeShapes Go.WideShapes Go.ChangeAt Go.RowKit Go.Shelf

/-- A text of as many bytes of 0. -/
def zeros (n : Nat) : ByteArray := ⟨(List.replicate n 0).toArray⟩
theorem zeros_size (n : Nat) : (zeros n).size = n := by simp [zeros, ByteArray.size]
theorem repeat_zero (n : Nat) : Lib.repeatL [0] n = List.replicate n (0 : UInt8) := by
  induction n with
  | zero => rfl
  | succ n ih => simp only [Lib.repeatL, List.replicate_succ] at ih ⊢; first | rw [ih]; rfl | simp [ih]

/-- A new disk. -/
def newD (m s : Nat) : Dk := ⟨(s : Int), List.replicate m (zeros s), [], false⟩
theorem newD_ok {m s : Nat} (h1 : 1 ≤ m) (h2 : m ≤ 4096) (h3 : 96 ≤ s) (h4 : s ≤ 1024) : Ok (newD m s) :=
  ⟨by show (96 : Int) ≤ (s : Int); omega, by show (s : Int) ≤ 1024; omega, by simpa [newD] using h1, by simpa [newD] using h2, fun x hx => by
    have := List.eq_of_mem_replicate hx
    rw [this, zeros_size]
    rfl, fun x hx => by simp [newD] at hx⟩

theorem shapedB_iff {m s : Int} : shapedB m s = true ↔ 1 ≤ m ∧ m ≤ 4096 ∧ 96 ≤ s ∧ s ≤ 1024 := by
  unfold shapedB
  rw [Bool.and_eq_true, withinB_iff, withinB_iff]
  omega

set_option maxHeartbeats 1000000 in
set_option maxRecDepth 100000 in
theorem new_no (m s : Int) (w : World) (h : shapedB m s = false) :
    Calls Try.prog 11 #[.int .i64 m, .int .i64 s] w fun e w' => e = .returned (.tuple #[.agg #[.int .i64 0, .slice none 0 0, .slice none 0 0, .bool false], .int .i64 1]) ∧ Below w.heap.size w w' := by
  have HS : Hid (∀ W, Calls Try.prog 30 #[.int .i64 m, .int .i64 s] W fun e w' => e = .returned (.bool false) ∧ W = w') := Lib.hid fun W => by
    rw [← h]
    exact shaped_any m s W
  clear h
  go_enter Try.func11, Try.ntmps11
  go_wp2_with fail
  refine (HS.out _).mono ?_
  rintro e w1 ⟨rfl, rfl⟩
  go_wp2
  exact bodyPost_ret (v := .tuple #[.agg #[.int .i64 0, .slice none 0 0, .slice none 0 0, .bool false], .int .i64 1]) (by simp [results, Try.results11, go_sem]) rfl ⟨rfl, by
    first | exact four_below (alloc_below w _) (Nat.le_refl _) _ _ _ _ | exact alloc_below w _⟩

set_option maxHeartbeats 1000000 in
set_option maxRecDepth 100000 in
theorem new_yes (m s : Nat) (w : World) (h1 : 1 ≤ m) (h2 : m ≤ 4096) (h3 : 96 ≤ s) (h4 : s ≤ 1024) :
    Calls Try.prog 11 #[.int .i64 (m : Int), .int .i64 (s : Int)] w fun e w' => ∃ A', e = .returned (.tuple #[.agg #[.int .i64 (s : Int), .slice A' m m, .slice none 0 0, .bool false], .int .i64 0]) ∧ RowT w' A' m (List.replicate m (zeros s)) ∧ Below w.heap.size w w' := by
  have HS : Hid (∀ W, Calls Try.prog 30 #[.int .i64 (m : Int), .int .i64 (s : Int)] W fun e w' => e = .returned (.bool true) ∧ W = w') := Lib.hid fun W => by
    rw [← shapedB_iff.2 (⟨by omega, by omega, by omega, by omega⟩ : 1 ≤ (m : Int) ∧ (m : Int) ≤ 4096 ∧ 96 ≤ (s : Int) ∧ (s : Int) ≤ 1024)]
    exact shaped_any m s W
  have HR : Hid (∀ W, Calls Try.prog 31 #[.string ⟨#[0]⟩, .int .i64 (s : Int)] W fun e w' => e = .returned (.string (zeros s)) ∧ Below W.heap.size W w') := Lib.hid fun W => by
    have := Try.strings_Repeat ⟨#[0]⟩ s W (by omega) (by show 1 * s ≤ _; omega)
    have e : Lib.repeatL (⟨#[0]⟩ : ByteArray).data.toList s = List.replicate s 0 := repeat_zero s
    rw [e] at this
    exact this
  have HT : Hid (∀ W b, W.cell? ⟨b, 0, none⟩ = some (.string (zeros s)) → Calls Try.prog 32 #[.slice (some ⟨b, 0, none⟩) 1 1, .int .i64 (m : Int)] W fun e w' => ∃ A', e = .returned (.slice A' m m) ∧ RowT w' A' m (List.replicate m (zeros s)) ∧ NewA W A' ∧ Below W.heap.size W w') := Lib.hid fun W b hb => repeat_any (zeros s) b 1 m W hb h1 h2
  have X0 : Hid (Bx (w.alloc (.cells #[.int .i64 0, .slice none 0 0, .slice none 0 0, .bool false] 25)) w.heap.size 25 #[.int .i64 0, .slice none 0 0, .slice none 0 0, .bool false]) := Lib.hid (Bx.new w 25 _)
  generalize zeros s = z at *
  generalize List.replicate m z = L at *
  go_enter Try.func11, Try.ntmps11
  go_wp2_with fail
  obtain ⟨V, hV⟩ : ∃ V, w.alloc (.cells #[.int .i64 0, .slice none 0 0, .slice none 0 0, .bool false] 25) = V := ⟨_, rfl⟩
  have B1 : Below w.heap.size w V := by rw [← hV]; exact alloc_below w _
  rw [hV] at X0 ⊢
  have HB1 := Lib.hid B1
  clear hV B1
  refine (HS.out _).mono ?_
  rintro e w1 ⟨rfl, rfl⟩
  go_wp2_with fail
  refine (HR.out _).mono ?_
  rintro e w2 ⟨rfl, hb2⟩
  have HB2 := Lib.hid (below_trans HB1.out hb2)
  have X2 := Lib.hid (X0.out.below hb2)
  clear hb2 X0 HB1
  go_wp2_with fail
  refine (HT.out _ _ ((Bx.new w2 9 #[.string z]).cell 0 rfl)).mono ?_
  rintro e w3 ⟨A', rfl, hr, hn, hb3⟩
  have HB3 := Lib.hid (below_trans HB2.out (below_trans (alloc_below w2 _) hb3))
  have X3 := (X2.out.below (alloc_below w2 _)).below hb3
  obtain ⟨y0, y1, y2, y3⟩ := X3.four
  have y4 := X3.frozen
  have HR3 := Lib.hid (hr.four (r := w.heap.size) (hn.ne (X2.out.below (alloc_below w2 _)).lt) (.int .i64 (s : Int)) (.slice A' m m) (.slice none 0 0) (.bool false))
  have HB4 := Lib.hid (four_below (r := w.heap.size) HB3.out (Nat.le_refl _) (.int .i64 (s : Int)) (.slice A' m m) (.slice none 0 0) (.bool false))
  clear hr hn hb3 X3 HB2 X2
  go_wp2_with fail
  exact bodyPost_ret (v := .tuple #[.agg #[.int .i64 (s : Int), .slice A' m m, .slice none 0 0, .bool false], .int .i64 0]) (by simp [results, Try.results11, go_sem, *]) rfl ⟨A', rfl, HR3.out, HB4.out⟩
end Go.Proofs.Ytpkoonokagchgaa
