/- What the library's IndexAny answers of the four signs that end a name, where one of them stands behind plain bytes alone. -/
import Derived.Test.YtnaijahhogndjaaGreatDoorSign
namespace Go.Proofs.YtnaijahhogndjaaGreatDoor
open Go.ChangeShapes Go.WideShapes Go.ChangeAt Go.RowKit

abbrev nameEnds : ByteArray := ⟨#[61, 93, 34, 32]⟩
theorem iter_below (w : World) (s : ByteArray) (k : Nat) : Below w.heap.size w (w.iter s k) := by
  unfold World.iter
  exact (Below.refl _ _).alloc (Nat.le_refl _) _
set_option maxRecDepth 100000 in
theorem rune_near (c : Int) (w : World) (h0 : 0 ≤ c) (h1 : c < 128) :
    Calls Tryz.prog 150 #[.string nameEnds, .int .i32 c] w fun e w' => e = .returned (.int .i64 (Lib.indexByte [61, 93, 34, 32] c.toNat.toUInt8)) ∧ w' = w :=
  Any.strings_IndexRune_ascii { Tryz.lays150 with } nameEnds c w h0 h1
set_option maxRecDepth 100000 in
theorem should_near (n : Int) (w : World) : Calls Tryz.prog 151 #[.int .i64 n] w fun e w' => e = .returned (.bool (decide (8 < n))) ∧ w' = w :=
  Any.strings_shouldUseASCIISet { Tryz.lays150 with } n w
set_option maxHeartbeats 4000000 in
set_option maxRecDepth 100000 in
theorem any_near (s : ByteArray) (k : Nat) (w : World) (h8 : s.size ≤ 8) (hk : k < s.size) (ha : ∀ (j : Nat) b, j ≤ k → s.data.toList[j]? = some b → b.toNat < 128) (hno : Lib.NoAny s.data.toList [61, 93, 34, 32] k)
    (hit : ∃ x, s.data.toList[k]? = some x ∧ [61, 93, 34, 32].contains x = true) :
    Calls Tryz.prog 119 #[.string s, .string nameEnds] w fun e w' => e = .returned (.int .i64 k) ∧ Below w.heap.size w w' := by
  have HA := Lib.hid ha
  have HN := Lib.hid hno
  have HI := Lib.hid hit
  have h8z : decide ((8 : Int) < (s.size : Int)) = false := decide_eq_false (by omega)
  have HS := Lib.hid (should_near (s.size : Int) w)
  rw [h8z] at HS
  clear ha hno hit h8z
  go_enter Tryz.func119, Tryz.ntmps119
  go_wp2_with fail
  refine HS.out.mono ?_
  rintro e w' ⟨rfl, rfl⟩
  go_wp2
  go_loopg [9, 10] s.size (fun g _ _ wx => ∃ i : Nat, i ≤ k ∧ i + g = s.size ∧ wx = w'.iter s i)
  case atStart => exact ⟨0, by omega, by omega, rfl⟩
  case round =>
    obtain ⟨i, hik, hig, rfl⟩ := hrel
    cases gk with
    | zero => omega
    | succ g =>
      have hi : i < s.size := by omega
      obtain ⟨x, hx⟩ : ∃ x : UInt8, s[i]'hi = x := ⟨_, rfl⟩
      have hxl : s.data.toList[i]? = some x := by rw [← hx]; exact Lib.data_getElem? s i hi
      have hx128 : x.toNat < 128 := HA.out i x hik hxl
      have hnx := fun ty => run_next_ascii (P := Tryz.prog) w' s i ty hi (by rw [hx]; exact hx128)
      rw [hx] at hnx
      have HR := Lib.hid (fun W => rune_near ((x.toNat : Nat) : Int) W (by omega) (by omega))
      have hback : ((x.toNat : Int)).toNat.toUInt8 = x := by simp
      rw [hback] at HR
      have hcon := Lib.contains_iff_indexByte [61, 93, 34, 32] x
      have HX := Lib.hid hxl
      clear hxl hx hback
      by_cases hk2 : i = k
      · subst hk2
        obtain ⟨x', hx', hin⟩ := HI.out
        rw [HX.out] at hx'
        cases hx'
        rw [hin] at hcon
        have hge : (0 : Int) ≤ Lib.indexByte [61, 93, 34, 32] x := of_decide_eq_true hcon.symm
        generalize Lib.indexByte [61, 93, 34, 32] x = q at *
        clear hcon hin
        go_wp2_with fail
        refine (HR.out _).mono ?_
        rintro e w2 ⟨rfl, rfl⟩
        go_wp2
        go_ret
        exact ⟨rfl, iter_below _ _ _⟩
      · have hin := HN.out i x (by omega) HX.out
        rw [hin] at hcon
        have hlt : ¬ (0 : Int) ≤ Lib.indexByte [61, 93, 34, 32] x := of_decide_eq_false hcon.symm
        generalize Lib.indexByte [61, 93, 34, 32] x = q at *
        clear hcon hin
        go_wp2_with fail
        refine (HR.out _).mono ?_
        rintro e w2 ⟨rfl, rfl⟩
        go_wp2
        go_roundg g
        case measure => omega
        case rel => exact ⟨i + 1, by omega, by omega, rfl⟩

theorem info116 : (Tryz.prog.info? (Tryz.lays150_ren.t 116)).map (fun i => (i.zero, i.size)) = some (some (.agg (Array.replicate 256 (.bool false))), 256) := by kernel_rfl
theorem ends_plain : ∀ (j : Nat) b, nameEnds.data.toList[j]? = some b → b.toNat < 128 := by
  intro j b hb
  have hm : b ∈ [(61 : UInt8), 93, 34, 32] := List.mem_of_getElem? hb
  simp at hm
  rcases hm with rfl | rfl | rfl | rfl <;> decide
set_option maxRecDepth 100000 in
theorem any_far (s : ByteArray) (w : World) (h8 : 8 < s.size) (hs : s.size < 4294967281) :
    Calls Tryz.prog 119 #[.string s, .string nameEnds] w fun e w' => e = .returned (.int .i64 (Lib.indexAny s.data.toList [61, 93, 34, 32])) ∧ Below w.heap.size w w' := by
  refine (Any.strings_IndexAny_long { Tryz.lays150 with } (zero_of_info info116).1 (zero_of_info info116).2 s nameEnds w (by decide) h8 hs (by decide) ends_plain).mono ?_
  rintro e w' ⟨rfl, rfl⟩
  exact ⟨rfl, ((Below.refl _ _).alloc (Nat.le_refl _) _).alloc (by simp) _⟩

/-- IndexAny of the four signs, in a text in which one of them stands at k, behind plain bytes alone. -/
theorem any_ends (r : List UInt8) (k : Nat) (x : UInt8) (w : World) (hr : r.length < 4294967281) (hx : r[k]? = some x) (hin : [61, 93, 34, 32].contains x = true) (hno : Lib.NoAny r [61, 93, 34, 32] k) (ha : ∀ (j : Nat) b, j ≤ k → r[j]? = some b → b.toNat < 128) :
    Calls Tryz.prog 119 #[.string (bytes r), .string nameEnds] w fun e w' => e = .returned (.int .i64 (Lib.indexAny r [61, 93, 34, 32])) ∧ Below w.heap.size w w' := by
  by_cases h8 : 8 < r.length
  · have h := any_far (bytes r) w (by rw [bytes_size]; exact h8) (by rw [bytes_size]; exact hr)
    rw [bytes_list] at h
    exact h
  · have hk : k < r.length := (List.getElem?_eq_some_iff.1 hx).1
    have h := any_near (bytes r) k w (by rw [bytes_size]; omega) (by rw [bytes_size]; exact hk) (by rw [bytes_list]; exact ha) (by rw [bytes_list]; exact hno) ⟨x, by rw [bytes_list]; exact hx, hin⟩
    rw [Lib.indexAny_hit hno hx hin]
    exact h
end Go.Proofs.YtnaijahhogndjaaGreatDoor
