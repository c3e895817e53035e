/- What the two closures of sysl.element answer: the one takes off just these bytes, the other all that a name goes up to (given what the library's IndexAny answers of that text). -/
import Derived.Test.YtnaijahhogndjaaGreatDoorBehind
import Derived.Test.YtnaijahhogndjaaGreatDoorTakes
namespace Go.Proofs.YtnaijahhogndjaaGreatDoor
open Go.ChangeShapes Go.WideShapes Go.ChangeAt Go.RowKit

set_option maxHeartbeats 1000000 in
set_option maxRecDepth 100000 in
theorem sign_any (sep : ByteArray) (r : List UInt8) (b : Nat) (w : World) (hc : w.cell? ⟨b, 0, none⟩ = some (.string (bytes r))) (hf : w.frozen? ⟨b, 0, none⟩ = false) :
    Calls Tryz.prog 117 #[.string sep, .pointer (some ⟨b, 0, none⟩)] w fun e w' => e = .returned (.bool (Lib.hasPrefix r sep.data.toList)) ∧ w' = w.setCell ⟨b, 0, none⟩ (.string (bytes (Lib.trimPrefix r sep.data.toList))) := by
  have h := Tryz.strings_CutPrefix (bytes r) sep w
  rw [bytes_list] at h
  have H := Lib.hid h
  clear h
  go_enter Tryz.func117, Tryz.ntmps117
  go_wp2_with fail
  refine H.out.mono ?_
  rintro e w' ⟨rfl, rfl⟩
  go_wp2
  go_ret
  exact ⟨rfl, rfl⟩

/-- Where a name ends. -/
def nameAt (r : List UInt8) : Nat := r.findIdx fun b => [61, 93, 34, 32].contains b
theorem indexAny_find (ends : List UInt8) : ∀ l : List UInt8, Lib.indexAny l ends = if l.findIdx (fun b => ends.contains b) < l.length then ((l.findIdx fun b => ends.contains b : Nat) : Int) else -1
  | [] => rfl
  | b :: l => by
    rw [Lib.indexAny, indexAny_find ends l, List.findIdx_cons]
    by_cases hb : ends.contains b = true
    · rw [if_pos hb, hb]; simp
    · rw [if_neg hb, Bool.not_eq_true _ |>.mp hb]
      simp only [cond_false, List.length_cons, Nat.add_lt_add_iff_right]
      split
      · rw [if_neg (by simp; try omega)]; try simp
      · simp

set_option maxHeartbeats 1000000 in
set_option maxRecDepth 100000 in
theorem name_of (r : List UInt8) (b : Nat) (w : World) (hb : b < w.heap.size) (hc : w.cell? ⟨b, 0, none⟩ = some (.string (bytes r))) (hf : w.frozen? ⟨b, 0, none⟩ = false)
    (CI : Calls Tryz.prog 119 #[.string (bytes r), .string ⟨#[61, 93, 34, 32]⟩] w fun e w' => e = .returned (.int .i64 (Lib.indexAny r [61, 93, 34, 32])) ∧ Below w.heap.size w w') :
    Calls Tryz.prog 118 #[.pointer (some ⟨b, 0, none⟩)] w fun e w' => e = .returned (.string (bytes (r.take (nameAt r)))) ∧ ∃ W, Below w.heap.size w W ∧ w' = W.setCell ⟨b, 0, none⟩ (.string (bytes (r.drop (nameAt r)))) := by
  rw [indexAny_find] at CI
  have hn : nameAt r ≤ r.length := List.findIdx_le_length
  have hdef : (r.findIdx fun b => [61, 93, 34, 32].contains b) = nameAt r := rfl
  rw [hdef] at CI
  clear hdef
  generalize nameAt r = n at *
  have hz : (bytes r).size = r.length := bytes_size r
  have HZ := Lib.hid hz
  have HD := Lib.hid (show (bytes r).extract n (bytes r).size = bytes (r.drop n) by rw [drop_bytes, bytes_list])
  have HT := Lib.hid (show (bytes r).extract 0 n = bytes (r.take n) by rw [Lib.extract_eq, bytes_list]; simp; rfl)
  by_cases hlt : n < r.length
  · rw [if_pos hlt] at CI
    have H := Lib.hid CI
    clear CI
    go_enter Tryz.func118, Tryz.ntmps118
    go_wp2_with fail
    refine H.out.mono ?_
    rintro e w1 ⟨rfl, hB⟩
    have hc1 := ((bcell hB).1 b 0 hb).trans hc
    have hf1 := ((bcell hB).2 b 0 hb).trans hf
    have HB := Lib.hid hB
    clear hB hc hf
    go_wp2
    go_ret
    refine ⟨?_, w1, HB.out, ?_⟩
    · show _ = Ending.returned (.string (bytes (r.take n)))
      rw [← HT.out]; rfl
    · rw [← HD.out, HZ.out]
  · rw [if_neg hlt] at CI
    obtain rfl : n = r.length := by omega
    have H := Lib.hid CI
    clear CI
    go_enter Tryz.func118, Tryz.ntmps118
    go_wp2_with fail
    refine H.out.mono ?_
    rintro e w1 ⟨rfl, hB⟩
    have hc1 := ((bcell hB).1 b 0 hb).trans hc
    have hf1 := ((bcell hB).2 b 0 hb).trans hf
    have HB := Lib.hid hB
    clear hB hc hf
    go_wp2
    go_ret
    refine ⟨?_, w1, HB.out, ?_⟩
    · show _ = Ending.returned (.string (bytes (r.take r.length)))
      rw [← HT.out]; rfl
    · rw [List.drop_length]; rfl
end Go.Proofs.YtnaijahhogndjaaGreatDoor
