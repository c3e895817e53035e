/- What the small functions of package tag answer: a number's bytes, the number that bytes tell, a copy of a text. All memory that was there stays. Conditions: at most eight bytes. -/
import Derived.Test.YtdfmaimeogcpdaaRRRRRows
import Derived.Test.YtdfmaimeogcpdaaRRRRNums
import Derived.WalkKit
import Derived.ProofKit
import Derived.Laws.BytesArg
import Derived.Laws.MakeOwn
import Derived.Laws.OwnMore
import Derived.Lib.UnsafeStr
import Derived.Lib.BufferWrite
import Derived.Lib.Hide
import Derived.Deep.WholeRow
import Derived.Deep.QuietTactic
import Derived.BigQuiet
import Derived.Deep.RegionWith
namespace Go.Proofs.YtdfmaimeogcpdaaRRRR
open Go.ChangeShapes Go.WideShapes Go.ChangeAt Go.RowKit

/-! ### Texts as numbers -/
def nums (s : ByteArray) : List Int := s.data.toList.map fun b => ((b.toNat : Nat) : Int)
theorem nums_length (s : ByteArray) : (nums s).length = s.size := by rw [nums, List.length_map, Array.length_toList]; rfl
theorem nums_bytes (s : ByteArray) : Bytes (nums s) := by
  intro x hx
  simp only [nums, List.mem_map] at hx
  obtain ⟨b, _, rfl⟩ := hx
  have := b.toNat_lt
  omega
theorem strOfNums_nums (s : ByteArray) : strOfNums (nums s) = s := by
  apply ByteArray.ext
  apply Array.toList_inj.mp
  rw [strOfNums_data, nums, List.map_map]
  conv => rhs; rw [← List.map_id s.data.toList]
  apply List.map_congr_left
  intro b _
  simp
theorem nums_strOfNums (l : List Int) (h : Bytes l) : nums (strOfNums l) = l := by
  rw [nums, strOfNums_data, List.map_map]
  conv => rhs; rw [← List.map_id l]
  apply List.map_congr_left
  intro x hx
  have := h x hx
  simp
  omega
theorem nums_inj {s t : ByteArray} (h : nums s = nums t) : s = t := by rw [← strOfNums_nums s, h, strOfNums_nums]
theorem nums_append (s t : ByteArray) : nums (s ++ t) = nums s ++ nums t := by simp [nums, ByteArray.data_append]
theorem nums_extract (s : ByteArray) (a b : Nat) : nums (s.extract a b) = ((nums s).drop a).take (b - a) := by
  simp only [nums, ByteArray.data_extract, Array.toList_extract, List.extract, List.map_drop, List.map_take]
theorem strOfNums_append (a b : List Int) : strOfNums (a ++ b) = strOfNums a ++ strOfNums b := by
  apply ByteArray.ext
  apply Array.toList_inj.mp
  rw [ByteArray.data_append, Array.toList_append, strOfNums_data, strOfNums_data, strOfNums_data, List.map_append]
theorem getElem_nums (s : ByteArray) (k : Nat) (h : k < s.size) : ((s[k]'h).toNat : Int) = (nums s)[k]'(by rw [nums_length]; exact h) := by
  simp only [nums, List.getElem_map, Array.getElem_toList]
  rfl

/-! ### value -/
theorem or_byte (v x : Nat) (hv : v < 72057594037927936) (hx : x < 256) : bits .or .u64 ((v * 256 : Nat) : Int) ((x : Nat) : Int) = ((v * 256 + x : Nat) : Int) := by
  have e : bits .or .u64 ((v * 256 : Nat) : Int) (x : Int) = IntKind.u64.wrap ((BitVec.ofInt 64 ((v * 256 : Nat) : Int) ||| BitVec.ofInt 64 (x : Int)).toNat : Int) := rfl
  have o : ∀ n : Nat, BitVec.ofInt 64 (n : Int) = BitVec.ofNat 64 n := fun n => by apply BitVec.eq_of_toNat_eq; simp
  rw [e, o, o, BitVec.toNat_or, BitVec.toNat_ofNat, BitVec.toNat_ofNat, Nat.mod_eq_of_lt (show v * 256 < 2 ^ 64 by omega), Nat.mod_eq_of_lt (show x < 2 ^ 64 by omega),
    show v * 256 = 2 ^ 8 * v by omega, ← Nat.two_pow_add_eq_or_of_lt (by omega)]
  have : IntKind.u64.wrap ((2 ^ 8 * v + x : Nat) : Int) = ((2 ^ 8 * v + x : Nat) : Int) := by
    show ((2 ^ 8 * v + x : Nat) : Int) % 18446744073709551616 = _
    omega
  rw [this]

theorem value_any (s : ByteArray) (w : World) (hs : s.size ≤ 8) :
    Calls Try.prog 15 #[.string s] w fun e w' => e = .returned (.int .u64 (val (nums s))) ∧ w' = w := by
  go_enter Try.func15, Try.ntmps15
  go_wp2
  go_loop [3, 7] (fun v i => ∃ k : Nat, k ≤ s.size ∧ i = .int .i64 k ∧ v = .int .u64 (val ((nums s).take k))) (fun _ i => s.size - (intOf i).toNat)
  case atStart => exact ⟨0, by omega, rfl, rfl⟩
  case round =>
    obtain ⟨k, hk, rfl, rfl⟩ := hrel
    by_cases hlt : k < s.size
    · have hb := nums_bytes s
      have hl : k < (nums s).length := by rw [nums_length]; exact hlt
      have hx := getElem_nums s k hlt
      have hbx := hb _ (List.getElem_mem hl)
      have hstep : val ((nums s).take (k + 1)) = val ((nums s).take k) * 256 + ((nums s)[k]'hl).toNat := by rw [List.take_succ_eq_append_getElem hl, val_snoc]
      have hv := val_lt ((nums s).take k) (fun x h => hb x (List.mem_of_mem_take h))
      rw [List.length_take, Nat.min_eq_left (by omega)] at hv
      have hv2 : val ((nums s).take k) < 72057594037927936 := Nat.lt_of_lt_of_le hv (by
        have : (256 : Nat) ^ k ≤ 256 ^ 7 := Nat.pow_le_pow_right (by decide) (by omega)
        omega)
      obtain ⟨x, hxx⟩ : ∃ x : Nat, (nums s)[k]'hl = (x : Int) := ⟨_, (Int.toNat_of_nonneg hbx.1).symm⟩
      have hx2 : x < 256 := by omega
      have HO := Lib.hid (or_byte (val ((nums s).take k)) x hv2 hx2)
      rw [hxx] at hx hstep
      have HS := Lib.hid hstep
      clear hstep hxx hbx hb hv
      go_wp2
      go_round
      case rel =>
        refine ⟨k + 1, by omega, by go_num, ?_⟩
        have h1 := HO.out
        have h2 := HS.out
        rw [h2, Int.toNat_natCast, ← h1, Int.natCast_mul]
        rfl
      case measure => simp [intOf]; omega
    · obtain rfl : k = s.size := by omega
      have e : (nums s).take s.size = nums s := List.take_of_length_le (by rw [nums_length]; omega)
      rw [e]
      clear e
      go_wp2
      go_ret
      exact ⟨rfl, rfl⟩

/-! ### number -/
/-- The row of k bytes, the last i of them filled in. -/
def rowTo (k i n : Nat) : Array Value := ((List.replicate (k - i) 0 ++ be i n).map (Value.int .u8)).toArray
theorem rowTo_zero (k n : Nat) : rowTo k 0 n = madeCells (Value.int .u8 0).cells k := by
  apply Array.toList_inj.mp
  rw [show (Value.int .u8 0).cells = #[.int .u8 0] from rfl, toList_madeCells_one]
  simp [rowTo, be]
theorem rowTo_at (k i n : Nat) (h : i < k) : (rowTo k i n)[k - 1 - i]? = some (.int .u8 0) := by
  unfold rowTo
  rw [List.getElem?_toArray, List.getElem?_map, List.getElem?_append_left (by rw [List.length_replicate]; omega), List.getElem?_replicate, if_pos (by omega)]
  rfl
theorem rowTo_succ (k i n : Nat) (h : i < k) : (rowTo k i n).setIfInBounds (k - 1 - i) (.int .u8 ((n / 256 ^ i % 256 : Nat) : Int)) = rowTo k (i + 1) n := by
  apply Array.toList_inj.mp
  have e : k - i = (k - 1 - i) + 1 := by omega
  have hl : k - (i + 1) = k - 1 - i := by omega
  simp only [rowTo, be, Array.toList_setIfInBounds, List.map_append, List.map_cons, List.map_replicate]
  rw [e, hl, List.replicate_succ', List.append_assoc, List.set_append_right _ _ (by simp), List.length_replicate, Nat.sub_self]
  rfl
theorem rowTo_cells (k n i : Nat) (h : i < k) : (rowTo k k n)[i]? = some (.int .u8 ((be k n).getD i 0)) := by
  have hl : i < (be k n).length := by rw [be_length]; exact h
  unfold rowTo
  rw [Nat.sub_self, List.replicate_zero, List.nil_append, List.getElem?_toArray, List.getElem?_map, List.getElem?_eq_getElem hl]
  simp [List.getD, List.getElem?_eq_getElem hl]
theorem info5 : (Try.prog.info? 5).map (fun i => (i.zero, i.size, i.bytes)) = some (some (.int .u8 0), 1, 1) := by kernel_rfl
theorem shift_div (n i : Nat) : (n : Int) / 2 ^ (8 * (i : Int)).toNat % 256 = ((n / 256 ^ i % 256 : Nat) : Int) := by
  have e : (8 * (i : Int)).toNat = 8 * i := by omega
  have h : (2 : Nat) ^ (8 * i) = 256 ^ i := by rw [Nat.pow_mul]
  rw [e, ← h]
  simp

set_option maxHeartbeats 800000 in
theorem number_any (n k : Nat) (w : World) (hk : k ≤ 8) (hk0 : 0 < k) :
    Calls Try.prog 12 #[.int .u64 n, .int .i64 k] w fun e w' => e = .returned (.string (strOfNums (be k n))) ∧ Below w.heap.size w w' := by
  obtain ⟨i0, hi, hz0, hz1, hz2⟩ := info_parts info5
  have hmk : ∀ W : World, (Instr.makeSlice 39 (.int .i64 (k : Int)) (.int .i64 (k : Int))).run Try.prog W = .ok (.slice (some ⟨W.heap.size, 0, none⟩) k k) (W.alloc (.cells (rowTo k 0 n) 5)) := fun W => by
    have h := run_make (P := Try.prog) W 39 5 i0 (.int .u8 0) Try.underlying39 hi hz0 .i64 .i64 (k : Int) (k : Int) (by omega) (by omega) (by rw [hz2]; omega) (by omega)
    rw [rowTo_zero]
    simpa [hz1] using h
  go_enter Try.func12, Try.ntmps12
  go_wp2
  go_loopw [11] (fun i wr => ∃ j : Nat, j ≤ k ∧ i = .int .i64 j ∧ wr.heap[w.heap.size]? = some (.cells (rowTo k j n) 5 (0, 0)) ∧ Below w.heap.size w wr)
    (fun i _ => k - (intOf i).toNat)
  case atStart => exact ⟨0, by omega, rfl, heap_alloc_last w _, (Below.refl _ _).alloc (Nat.le_refl _) _⟩
  case round =>
    obtain ⟨j, hj, rfl, hrow, hnx⟩ := hrel
    by_cases hlt : j < k
    · have hc := (cell_of_row wr w.heap.size (k - 1 - j) (rowTo k j n) 5 (0, 0) hrow).trans (rowTo_at k j n hlt)
      have hf : wr.frozen? ⟨w.heap.size, k - 1 - j, none⟩ = false := frozen_of_row wr w.heap.size (k - 1 - j) (rowTo k j n) 5 hrow
      have HR := Lib.hid hrow
      have HD := Lib.hid (shift_div n j)
      have hidx : ((k : Int) - 1 - j).toNat = k - 1 - j := by omega
      clear hrow hmk
      go_wp2
      go_roundw
      case rel =>
        have e : (n : Int) / 2 ^ (8 * j) % 256 = ((n / 256 ^ j % 256 : Nat) : Int) := by
          have := HD.out
          rwa [show (8 * (j : Int)).toNat = 8 * j by omega] at this
        refine ⟨j + 1, by omega, by go_num, ?_, hnx.setCell (p := ⟨w.heap.size, k - 1 - j, none⟩) (Nat.le_refl _) _⟩
        rw [e, ← rowTo_succ k j n hlt]
        exact heap_setCell_same wr w.heap.size (k - 1 - j) (rowTo k j n) 5 _ HR.out
      case measure => simp [intOf]; omega
    · obtain rfl : j = k := by omega
      clear hmk
      have hconv : (convert 39 9 (.slice (some ⟨w.heap.size, 0, none⟩) j j)).run Try.prog wr = .ok (.string (strOfNums (be j n))) wr :=
        run_convert_bytes_arg wr 39 5 Try.underlying39 Try.underlying5 _ 0 j j (be j n) (be_length _ _)
          (fun i hi => by rw [Nat.zero_add, cell_of_row _ _ _ _ 5 (0, 0) hrow]; exact rowTo_cells j n i hi) 9 Try.underlying9
      clear hrow
      go_wp2
      go_ret
      exact ⟨rfl, hnx⟩

/-! ### refusal -/
/-- Why a kind and so many parts have no text. -/
def refused (kind many : Int) : Int := if kind < 0 ∨ 255 < kind then 1 else if 65536 < many then 4 else 0
theorem refusal_any (kind many : Int) (w : World) :
    Calls Try.prog 11 #[.int .i64 kind, .int .i64 many] w fun e w' => e = .returned (.int .i64 (refused kind many)) ∧ w' = w := by
  go_enter Try.func11, Try.ntmps11
  go_wp2
  all_goals go_ret
  all_goals refine ⟨?_, rfl⟩
  all_goals unfold refused
  all_goals repeat' split
  all_goals first | rfl | omega

/-! ### a copy of a text -/
theorem cells5 : Try.prog.cellsOf 5 = 1 := by kernel_rfl
set_option maxHeartbeats 800000 in
theorem copy_any (s : ByteArray) (w : World) (hlim : s.size ≤ 281474976710656) :
    Calls Try.prog 21 #[.string s] w fun e w' => e = .returned (.string s) ∧ Below w.heap.size w w' := by
  by_cases h0 : s.size = 0
  · obtain rfl : s = ⟨#[]⟩ := ByteArray.ext (Array.eq_empty_of_size_eq_zero h0)
    go_enter Try.func21, Try.ntmps21
    go_wp2
    go_ret
    exact ⟨rfl, Below.refl _ _⟩
  · obtain ⟨i0, hi, hz0, hz1, hz2⟩ := info_parts info5
    obtain ⟨M, hM⟩ : ∃ M, M = madeCells (Value.int .u8 0).cells s.size := ⟨_, rfl⟩
    have hMs : M.size = s.size := by rw [hM, size_madeCells]
    have hmk : ∀ W : World, (Instr.makeSlice 39 (.int .i64 (s.size : Int)) (.int .i64 (s.size : Int))).run Try.prog W = .ok (.slice (some ⟨W.heap.size, 0, none⟩) s.size s.size) (W.alloc (.cells M 5)) := fun W => by
      have h := run_make (P := Try.prog) W 39 5 i0 (.int .u8 0) Try.underlying39 hi hz0 .i64 .i64 (s.size : Int) (s.size : Int) (by omega) (by omega) (by rw [hz2]; omega) (by omega)
      rw [hM]
      simpa [hz1] using h
    clear hM
    obtain ⟨Y, hY⟩ : ∃ Y, Y = (M.toList.take 0 ++ Lib.byteCells s.data.toList ++ M.toList.drop (0 + s.size)).toArray := ⟨_, rfl⟩
    have hcp := Lib.run_copy_row_string (P := Try.prog) (w.alloc (.cells M 5)) 39 9 3 5 w.heap.size 0 s.size s.size s M 5 Try.underlying39 (by rw [hi]; simp [hz1]) (heap_alloc_last w _) (Nat.le_refl _) (by omega)
    rw [← hY] at hcp
    have hYl : Y.toList = Lib.byteCells s.data.toList := by
      rw [hY, List.toList_toArray, List.take_zero, List.nil_append, List.drop_of_length_le (by rw [Array.length_toList]; omega), List.append_nil]
    have hgY : ((w.alloc (.cells M 5)).setRow w.heap.size Y).heap[w.heap.size]? = some (.cells Y 5 (0, 0)) := setRow_heap _ _ M _ 5 (0, 0) (heap_alloc_last w _)
    have hsz : s.data.toList.length = s.size := (Lib.size_eq s).symm
    have hYs : Y.size = s.size := by rw [← Array.length_toList, hYl, Lib.byteCells_length, hsz]
    have hUS := Lib.run_unsafeString_row (P := Try.prog) ((w.alloc (.cells M 5)).setRow w.heap.size Y) 56 3 9 5 Try.underlying56 cells5 w.heap.size Y.size (by unfold World.shape?; rw [hgY]) s.data.toList
      (fun e => h0 (by rw [← hsz, e]; rfl)) (by omega) (by omega)
      (fun j x hx => Lib.cells_of_row hgY Y.size j _ (by rw [List.take_of_length_le (by rw [Array.length_toList]; exact Nat.le_refl _), hYl]; simp [Lib.byteCells, hx]))
    rw [hsz] at hUS
    clear hY
    go_enter Try.func21, Try.ntmps21
    go_wp2
    go_ret
    have hb1 : Below w.heap.size w (w.alloc (.cells M 5)) := (Below.refl _ w).alloc (Nat.le_refl _) _
    have hb2 : Below w.heap.size (w.alloc (.cells M 5)) ((w.alloc (.cells M 5)).setRow w.heap.size Y) := ⟨rfl, rfl, rfl, by simp, fun k hk => setRow_other _ _ _ _ (by omega)⟩
    exact ⟨rfl, Lib.below_freeze (hb1.trans hb2) (p := ⟨w.heap.size, 0, none⟩) (Nat.le_refl _) _⟩
theorem clone_any (s : ByteArray) (w : World) (hlim : s.size ≤ 281474976710656) :
    Calls Try.prog 20 #[.string s] w fun e w' => e = .returned (.string s) ∧ Below w.heap.size w w' := by
  go_enter Try.func20, Try.ntmps20
  go_wp2_with (go_at_call 21; refine (copy_any s _ hlim).mono ?_; rintro e w' ⟨rfl, hb⟩)
  go_ret
  exact ⟨rfl, hb⟩

/-! ### first -/
theorem nums_head (s : ByteArray) : nums (s.extract 0 8) = (nums s).take 8 := by rw [nums_extract]; rfl
theorem first_short_any (s : ByteArray) (w : World) (h8 : s.size < 8) :
    Calls Try.prog 19 #[.string s] w fun e w' => e = .returned (.tuple #[.string ⟨#[]⟩, .string ⟨#[]⟩, .bool false]) ∧ Below w.heap.size w w' := by
  have hb : ((s.size : Nat) : Int) < 8 := by omega
  go_enter Try.func19, Try.ntmps19
  go_wp2
  go_ret3
  exact ⟨rfl, Below.refl _ _⟩
theorem drewN_below (w : World) (n : Nat) : Below w.heap.size w (w.drewN n) := ⟨rfl, rfl, rfl, Nat.le_refl _, fun _ _ => rfl⟩

set_option maxHeartbeats 800000 in
theorem first_long_any (s : ByteArray) (w : World) (hlim : s.size ≤ 281474976710656) (h8 : 8 ≤ s.size) (hv : s.size - 8 < val ((nums s).take 8)) :
    Calls Try.prog 19 #[.string s] w fun e w' => e = .returned (.tuple #[.string ⟨#[]⟩, .string ⟨#[]⟩, .bool false]) ∧ Below w.heap.size w w' := by
  have hb : ¬ ((s.size : Nat) : Int) < 8 := by omega
  have hs : (s.extract 0 8).size ≤ 8 := by rw [ByteArray.size_extract]; omega
  have hr : (s.extract 8 s.size).size = s.size - 8 := by rw [ByteArray.size_extract]; omega
  have hvv := nums_head s
  have h1 : (8 : Int) ≤ (s.size : Int) := by omega
  have hbyte := val_lt ((nums s).take 8) (fun x h => nums_bytes s x (List.mem_of_mem_take h))
  rw [List.length_take, nums_length, Nat.min_eq_left h8] at hbyte
  go_enter Try.func19, Try.ntmps19
  go_wp2
  go_quiet (first | (go_at_call 15; refine Calls.quiet_of_same (value_any _ _ hs)))
  rw [hvv]
  generalize val ((nums s).take 8) = V at hv hbyte ⊢
  generalize s.extract 8 s.size = R at hr ⊢
  clear hvv hs
  have hcmp : ((R.size : Nat) : Int) < (V : Int) := by omega
  go_wp2
  go_ret3
  exact ⟨rfl, drewN_below _ _⟩

set_option maxHeartbeats 1600000 in
theorem first_yes_any (s R : ByteArray) (V : Nat) (w : World) (hlim : s.size ≤ 281474976710656) (h8 : 8 ≤ s.size) (hV : val (nums (s.extract 0 8)) = V) (hR : s.extract 8 s.size = R) (hv : V ≤ s.size - 8) :
    Calls Try.prog 19 #[.string s] w fun e w' => e = .returned (.tuple #[.string (R.extract 0 V), .string (R.extract V R.size), .bool true]) ∧ Below w.heap.size w w' := by
  have hb : ¬ ((s.size : Nat) : Int) < 8 := by omega
  have hs : (s.extract 0 8).size ≤ 8 := by rw [ByteArray.size_extract]; omega
  have hr : R.size = s.size - 8 := by rw [← hR, ByteArray.size_extract]; omega
  have h1 : (8 : Int) ≤ (s.size : Int) := by omega
  go_enter Try.func19, Try.ntmps19
  go_wp2
  go_quiet (first | (go_at_call 15; refine Calls.quiet_of_same (value_any _ _ hs)))
  rw [hV]
  clear hs hV hR
  have hcmp : ¬ ((R.size : Nat) : Int) < (V : Int) := by omega
  have hle : (V : Int) ≤ ((R.size : Nat) : Int) := by omega
  have hsz : (R.extract 0 V).size ≤ 281474976710656 := by rw [ByteArray.size_extract]; omega
  go_wp2
  go_region_with (go_at_call 20; refine (clone_any _ _ hsz).mono ?_; rintro e w' ⟨rfl, hb'⟩)
  go_wp2
  go_ret3
  refine ⟨?_, ?_⟩
  · rw [hr]; rfl
  · exact (drewN_below w _).trans hb'

theorem strOfNums_take (R : ByteArray) (V : Nat) : strOfNums ((nums R).take V) = R.extract 0 V := by
  rw [← strOfNums_nums (R.extract 0 V), nums_extract]
  rfl
theorem strOfNums_drop (R : ByteArray) (V : Nat) : strOfNums ((nums R).drop V) = R.extract V R.size := by
  rw [← strOfNums_nums (R.extract V R.size), nums_extract, List.take_of_length_le (by rw [List.length_drop, nums_length]; exact Nat.le_refl _)]
/-- What first answers: the part and what stands behind it, or that bytes are missing. -/
def firstAns (l : List Int) : Value := match first l with
  | none => .tuple #[.string ⟨#[]⟩, .string ⟨#[]⟩, .bool false]
  | some (p, r) => .tuple #[.string (strOfNums p), .string (strOfNums r), .bool true]
theorem first_any (s : ByteArray) (w : World) (hlim : s.size ≤ 281474976710656) :
    Calls Try.prog 19 #[.string s] w fun e w' => e = .returned (firstAns (nums s)) ∧ Below w.heap.size w w' := by
  by_cases h8 : s.size < 8
  · have e : firstAns (nums s) = .tuple #[.string ⟨#[]⟩, .string ⟨#[]⟩, .bool false] := by unfold firstAns; rw [first_short (by rw [nums_length]; exact h8)]
    rw [e]
    exact first_short_any s w h8
  · by_cases hv : s.size - 8 < val ((nums s).take 8)
    · have e : firstAns (nums s) = .tuple #[.string ⟨#[]⟩, .string ⟨#[]⟩, .bool false] := by
        unfold firstAns first
        rw [if_neg (by rw [nums_length]; exact h8), if_pos (by rw [List.length_drop, nums_length]; exact hv)]
      rw [e]
      exact first_long_any s w hlim (by omega) hv
    · have hR : nums (s.extract 8 s.size) = (nums s).drop 8 := by rw [nums_extract, List.take_of_length_le (by rw [List.length_drop, nums_length]; exact Nat.le_refl _)]
      have e : firstAns (nums s) = .tuple #[.string ((s.extract 8 s.size).extract 0 (val ((nums s).take 8))), .string ((s.extract 8 s.size).extract (val ((nums s).take 8)) (s.extract 8 s.size).size), .bool true] := by
        unfold firstAns first
        rw [if_neg (by rw [nums_length]; exact h8), if_neg (by rw [List.length_drop, nums_length]; exact hv)]
        rw [← hR]
        dsimp only
        rw [strOfNums_take, strOfNums_drop]
      rw [e]
      exact first_yes_any s _ _ w hlim (by omega) (by rw [nums_head]) rfl (by omega)
end Go.Proofs.YtdfmaimeogcpdaaRRRR
