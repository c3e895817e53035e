/- What the closure of Parse that takes figures answers, and what it leaves of its two variables. -/
import Derived.Test.YtnaijahhogndjaaGreatDoorCalRead
namespace Go.Proofs.YtnaijahhogndjaaGreatDoor.Cal
open Go.ChangeShapes Go.WideShapes Go.ChangeAt Go.RowKit

/-- The world in which Parse works: its answer, its date, what is left, whether all fits. -/
def PW (w : World) (o0 o1 : Obj) (r : ByteArray) (f : Bool) : World := (((w.alloc o0).alloc o1).alloc (.cells #[.string r] 9)).alloc (.cells #[.bool f] 4)
def bytes (l : List UInt8) : ByteArray := ⟨l.toArray⟩
theorem bytes_size (l : List UInt8) : (bytes l).size = l.length := by show l.toArray.size = _; simp
theorem bytes_list (l : List UInt8) : (bytes l).data.toList = l := rfl
theorem bytes_self (s : ByteArray) : bytes s.data.toList = s := Lib.mk_data s
def TakeAns (w : World) (o0 o1 : Obj) (T : Int × List UInt8 × Bool) (e : Ending) (w' : World) : Prop :=
  e = .returned (.int .i64 T.1) ∧ w' = (((w.alloc o0).alloc o1).alloc (.cells #[.string (bytes T.2.1)] 9)).alloc (.cells #[.bool T.2.2] 4)
theorem take_no (sg : ByteArray) (k : Nat) (w : World) (o0 o1 : Obj) (r : ByteArray) :
    Calls Tryz.prog 110 #[.string sg, .int .i64 k, .pointer (some ⟨w.heap.size + 2, 0, none⟩), .pointer (some ⟨w.heap.size + 3, 0, none⟩)] ((((w.alloc o0).alloc o1).alloc (.cells #[.string r] 9)).alloc (.cells #[.bool false] 4))
      fun e w' => e = .returned (.int .i64 0) ∧ w' = (((w.alloc o0).alloc o1).alloc (.cells #[.string r] 9)).alloc (.cells #[.bool false] 4) := by
  go_enter Tryz.func110, Tryz.ntmps110
  go_wp2_with (go_at_call 85; refine (Tryz.strings_CutPrefix _ _ _).mono ?_; rintro e w' ⟨rfl, rfl⟩)
  go_ret
  exact ⟨rfl, rfl⟩
theorem take_unsigned (sg : ByteArray) (k : Nat) (w : World) (o0 o1 : Obj) (r : ByteArray) (hp : Lib.hasPrefix r.data.toList sg.data.toList = false) :
    Calls Tryz.prog 110 #[.string sg, .int .i64 k, .pointer (some ⟨w.heap.size + 2, 0, none⟩), .pointer (some ⟨w.heap.size + 3, 0, none⟩)] ((((w.alloc o0).alloc o1).alloc (.cells #[.string r] 9)).alloc (.cells #[.bool true] 4))
      fun e w' => e = .returned (.int .i64 0) ∧ w' = (((w.alloc o0).alloc o1).alloc (.cells #[.string r] 9)).alloc (.cells #[.bool false] 4) := by
  go_enter Tryz.func110, Tryz.ntmps110
  go_wp2_with (go_at_call 85; refine (Tryz.strings_CutPrefix _ _ _).mono ?_; rintro e w' ⟨rfl, rfl⟩)
  go_ret
  exact ⟨rfl, rfl⟩
set_option maxHeartbeats 800000 in
theorem take_few (sg : ByteArray) (k : Nat) (w : World) (o0 o1 : Obj) (r : ByteArray) (b : List UInt8) (hb : Lib.trimPrefix r.data.toList sg.data.toList = b) (hs : b.length ≤ 9223372036854775807) (hk : k ≤ 6)
    (hp : Lib.hasPrefix r.data.toList sg.data.toList = true) (hf : ¬ figs b k = k) :
    Calls Tryz.prog 110 #[.string sg, .int .i64 k, .pointer (some ⟨w.heap.size + 2, 0, none⟩), .pointer (some ⟨w.heap.size + 3, 0, none⟩)] ((((w.alloc o0).alloc o1).alloc (.cells #[.string r] 9)).alloc (.cells #[.bool true] 4))
      fun e w' => e = .returned (.int .i64 0) ∧ w' = (((w.alloc o0).alloc o1).alloc (.cells #[.string r] 9)).alloc (.cells #[.bool false] 4) := by
  have he : (((figs b k : Nat) : Int) == (k : Int)) = false := beq_eq_false_iff_ne.2 (by omega)
  have HF := Lib.hid hf
  clear hf
  go_enter Tryz.func110, Tryz.ntmps110
  go_wp2_with fail
  refine (Tryz.strings_CutPrefix _ _ _).mono ?_
  rintro e w' ⟨rfl, rfl⟩
  rw [hb, hp]
  clear hb hp
  go_wp2_with fail
  refine (figuresOf_any (bytes b) k _ (by rw [bytes_size]; exact hs) hk).mono ?_
  rintro e w' ⟨rfl, rfl⟩
  rw [bytes_list]
  generalize figs b k = g at he ⊢
  go_wp2
  go_ret
  exact ⟨rfl, rfl⟩
set_option maxHeartbeats 800000 in
theorem take_yes (sg : ByteArray) (k : Nat) (w : World) (o0 o1 : Obj) (r : ByteArray) (b : List UInt8) (hb : Lib.trimPrefix r.data.toList sg.data.toList = b) (hs : b.length ≤ 9223372036854775807) (hk : k ≤ 6)
    (hp : Lib.hasPrefix r.data.toList sg.data.toList = true) (hf : figs b k = k) :
    Calls Tryz.prog 110 #[.string sg, .int .i64 k, .pointer (some ⟨w.heap.size + 2, 0, none⟩), .pointer (some ⟨w.heap.size + 3, 0, none⟩)] ((((w.alloc o0).alloc o1).alloc (.cells #[.string r] 9)).alloc (.cells #[.bool true] 4))
      fun e w' => e = .returned (.int .i64 (numOf (b.take k))) ∧ w' = (((w.alloc o0).alloc o1).alloc (.cells #[.string (bytes (b.drop k))] 9)).alloc (.cells #[.bool true] 4) := by
  have hl : k ≤ b.length := by have := (figs_le b k).2; omega
  have HD := Lib.hid (figs_all b k (by omega))
  have HF := Lib.hid hf
  clear hf
  go_enter Tryz.func110, Tryz.ntmps110
  go_wp2_with fail
  refine (Tryz.strings_CutPrefix _ _ _).mono ?_
  rintro e w' ⟨rfl, rfl⟩
  rw [hb, hp]
  clear hb hp
  go_wp2_with fail
  refine (figuresOf_any (bytes b) k _ (by rw [bytes_size]; exact hs) hk).mono ?_
  rintro e w' ⟨rfl, rfl⟩
  rw [bytes_list, HF.out]
  generalize hB : (⟨b.toArray⟩ : ByteArray) = B
  have hB' : bytes b = B := hB
  have hz : B.size = b.length := by rw [← hB']; exact bytes_size b
  have hkb : (k : Int) ≤ (B.size : Int) := by omega
  have hkn : k ≤ B.size := by omega
  have HX1 := Lib.hid (show B.extract 0 k = bytes (b.take k) by rw [← hB', Lib.extract_eq, bytes_list]; simp; rfl)
  have HX2 := Lib.hid (show B.extract k B.size = bytes (b.drop k) by
    rw [hz, ← hB', Lib.extract_eq, bytes_list, List.take_of_length_le (by rw [List.length_drop]; omega)]; rfl)
  have HZ := Lib.hid hz
  have hsz : B.size ≤ 9223372036854775807 := by omega
  clear hB hB' hz hs HF
  go_wp2_with fail
  rw [HX1.out]
  refine (number_any (bytes (b.take k)) _ (by rw [bytes_size, List.length_take]; omega) HD.out).mono ?_
  rintro e w' ⟨rfl, rfl⟩
  rw [bytes_list, HX2.out]
  go_wp2
  go_ret
  exact ⟨rfl, rfl⟩
theorem take_any (sg : ByteArray) (k : Nat) (w : World) (o0 o1 : Obj) (r : List UInt8) (f : Bool) (hs : r.length ≤ 9223372036854775807) (hk : k ≤ 6) :
    Calls Tryz.prog 110 #[.string sg, .int .i64 k, .pointer (some ⟨w.heap.size + 2, 0, none⟩), .pointer (some ⟨w.heap.size + 3, 0, none⟩)] ((((w.alloc o0).alloc o1).alloc (.cells #[.string (bytes r)] 9)).alloc (.cells #[.bool f] 4))
      (TakeAns w o0 o1 (tk sg.data.toList k r f)) := by
  cases f with
  | false => rw [tk_false]; exact take_no sg k w o0 o1 (bytes r)
  | true =>
    by_cases hp : Lib.hasPrefix r sg.data.toList = true
    · obtain ⟨p, hpp⟩ := trim_suffix r sg.data.toList
      have hbl : (Lib.trimPrefix r sg.data.toList).length ≤ 9223372036854775807 := by
        have : r.length = p.length + (Lib.trimPrefix r sg.data.toList).length := by conv => lhs; rw [hpp, List.length_append]
        omega
      by_cases hf : figs (Lib.trimPrefix r sg.data.toList) k = k
      · have e : tk sg.data.toList k r true = (numOf ((Lib.trimPrefix r sg.data.toList).take k), (Lib.trimPrefix r sg.data.toList).drop k, true) := by unfold tk; rw [hp, hf]; simp
        rw [e]
        exact take_yes sg k w o0 o1 (bytes r) _ rfl hbl hk hp hf
      · have e : tk sg.data.toList k r true = (0, r, false) := by unfold tk; rw [hp]; simp [hf]
        rw [e]
        exact take_few sg k w o0 o1 (bytes r) _ rfl hbl hk hp hf
    · have hp' : Lib.hasPrefix r sg.data.toList = false := by simpa using hp
      have e : tk sg.data.toList k r true = (0, r, false) := by unfold tk; rw [hp']; simp
      rw [e]
      exact take_unsigned sg k w o0 o1 (bytes r) hp'
end Go.Proofs.YtnaijahhogndjaaGreatDoor.Cal
