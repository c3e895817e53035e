/- A text's bytes, overwritten from the first on, as a text: conversion, copy, conversion back. -/
import Derived.Test.YtpkoonokagchgaaSeq
import Derived.Lib.ConvBytes
import Derived.Lib.LazyBuf
import Derived.Laws.BytesArg
namespace Go.Proofs.Ytpkoonokagchgaa
open Go.ChangeShapes Go.WideShapes Go.ChangeAt Go.RowKit

theorem put_data (t s : ByteArray) : (put t s).data.toList = s.data.toList ++ t.data.toList.drop s.size := by
  unfold put
  rw [ByteArray.data_append, Array.toList_append]
  congr 1
  rw [ByteArray.data_extract, Array.toList_extract]
  simp only [List.extract_eq_take_drop]
  apply List.take_of_length_le
  simp

theorem size_list (b : ByteArray) : b.data.toList.length = b.size := by simp

theorem str_nums (b : ByteArray) : strOfNums (b.data.toList.map fun x => (x.toNat : Int)) = b := by
  apply ByteArray.ext
  apply Array.toList_inj.1
  rw [strOfNums_data, List.map_map]
  conv => rhs; rw [← List.map_id b.data.toList]
  apply List.map_congr_left
  intro x _
  simp

theorem size5 : ∀ w, (Go.sizeOf 5).run Try.prog w = .ok 1 w := by
  intro w
  go_simp

theorem put_run (W : World) (t s : ByteArray) (h : s.size ≤ t.size) : ∃ W1 cap W2, (convert 9 61 (.string t)).run Try.prog W = .ok (.slice (some ⟨W.heap.size, 0, none⟩) t.size cap) W1 ∧ Below W.heap.size W W1 ∧ W1.heap.size = W.heap.size + 1 ∧
    (∀ ty, (Builtin.copy_ #[61, 9] ty #[.slice (some ⟨W.heap.size, 0, none⟩) t.size cap, .string s]).run Try.prog W1 = .ok (goInt s.size) W2) ∧ Below W.heap.size W W2 ∧
    (convert 61 9 (.slice (some ⟨W.heap.size, 0, none⟩) t.size cap)).run Try.prog W2 = .ok (.string (put t s)) W2 := by
  have hc : ∀ j, j < t.size → (Lib.bytesWorld W 5 t).cell? ⟨W.heap.size, j, none⟩ = some (.int .u8 (t.data.toList.getD j 0).toNat) := fun j hj => Lib.bytesWorld_cell W 5 t j hj
  have hf : ∀ j, j < t.size → (Lib.bytesWorld W 5 t).frozen? ⟨W.heap.size, j, none⟩ = false := fun j hj => by
    simp [World.frozen?, Lib.bytesWorld_at_new, Lib.bytesCells]
    omega
  have hb : Below W.heap.size W (Lib.bytesWorld W 5 t) := ⟨rfl, rfl, rfl, by rw [Lib.bytesWorld_size]; omega, fun k hk => Lib.bytesWorld_at_old W 5 t k hk⟩
  refine ⟨Lib.bytesWorld W 5 t, grownCap W t.size 0 5, _, Lib.run_convert_string_bytes W 9 61 5 t Try.underlying9 Try.underlying61 Try.underlying5, hb, Lib.bytesWorld_size W 5 t,
    fun ty => Go.run_copy_string _ 61 9 ty 5 W.heap.size 0 t.size _ s Try.underlying61 size5 h (fun j hj => by rw [Nat.zero_add, hc j (by omega)]; rfl) (fun j hj => by rw [Nat.zero_add]; exact hf j (by omega)),
    Go.below_setCells (Nat.le_refl _) _ _ _ hb, ?_⟩
  have hl : (put t s).data.toList.length = t.size := by rw [size_list, put_size h]
  have := run_convert_bytes_arg (P := Try.prog) ((Lib.bytesWorld W 5 t).setCells W.heap.size 0 (s.data.toList.map fun x => Value.int .u8 (x.toNat : Int))) 61 5 Try.underlying61 Try.underlying5 W.heap.size 0 t.size (grownCap W t.size 0 5) ((put t s).data.toList.map fun x => (x.toNat : Int)) (by rw [List.length_map, hl]) (fun i hi => by
    rw [put_data]
    by_cases hs : i < s.size
    · have h1 := World.cell?_setCells_in W.heap.size (s.data.toList.map fun x => Value.int .u8 (x.toNat : Int)) 0 (Lib.bytesWorld W 5 t) (fun j hj => by
        rw [List.length_map, size_list] at hj
        rw [Nat.zero_add, hc j (by omega)]
        rfl) i (by rw [List.length_map, size_list]; exact hs)
      rw [h1]
      have hi2 : i < s.data.toList.length := by rw [size_list]; exact hs
      simp only [List.getElem_map, List.getD_eq_getElem?_getD, List.getElem?_map, List.getElem?_append_left hi2, List.getElem?_eq_getElem hi2, Option.map_some, Option.getD_some]
    · rw [World.cell?_setCells_out _ _ _ _ _ (fun _ _ => .inr (by rw [List.length_map, size_list]; show 0 + s.size ≤ 0 + i; omega)), Nat.zero_add, hc i hi]
      have hi2 : i < t.data.toList.length := by rw [size_list]; exact hi
      have hge : s.data.toList.length ≤ i := by rw [size_list]; omega
      simp only [List.getD_eq_getElem?_getD, List.getElem?_map, List.getElem?_append_right hge, List.getElem?_drop]
      rw [size_list, show s.size + (i - s.size) = i by omega, List.getElem?_eq_getElem hi2]
      rfl) 9 Try.underlying9
  rw [str_nums] at this
  exact this
end Go.Proofs.Ytpkoonokagchgaa
