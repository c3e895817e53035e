/- What package sysl's Value answers: a value's text, with a mark ahead of each of the three bytes. All memory that was there stays. Condition: the value has at most 2^46 bytes. -/
import Derived.Test.YtnaijahhogndjaaGreatDoorBG3
import Derived.Laws.AppendOwn
import Derived.Laws.OwnMore
import Derived.Laws.BytesArg
import Derived.Laws.MakeOwn
import Derived.OwnWalk
import Derived.Below
import Derived.Deep.WholeRow
namespace Go.Proofs.YtnaijahhogndjaaGreatDoor
open Go.ChangeShapes Go.WideShapes Go.ChangeAt Go.RowKit

theorem info5 : (Tryz.prog.info? 5).map (fun i => (i.zero, i.size, i.bytes)) = some (some (.int .u8 0), 1, 1) := by kernel_rfl
theorem info5_of : ∃ i, Tryz.prog.info? 5 = some i ∧ i.zero = some (.int .u8 0) ∧ i.size = 1 ∧ i.bytes = 1 := by
  have h := info5
  cases hi : Tryz.prog.info? 5 with
  | none => rw [hi] at h; cases h
  | some j => rw [hi] at h; simp only [Option.map_some, Option.some.injEq, Prod.mk.injEq] at h; exact ⟨j, rfl, h.1, h.2.1, h.2.2⟩
theorem make_row {P : Program} (t e : TypeId) (i : TypeInfo) (z : Value) (ht : P.underlying t = some (.slice e)) (hi : P.info? e = some i) (hz : i.zero = some z)
    (kl kc : IntKind) (n c : Nat) (hnc : n ≤ c) (hbytes : i.bytes * c ≤ 281474976710656) (h63 : c ≤ 9223372036854775807) (w : World) :
    (Instr.makeSlice t (.int kl (n : Int)) (.int kc (c : Int))).run P w = .ok (.slice (some ⟨w.heap.size, 0, none⟩) n c) (w.alloc (.cells (madeCells z.cells (c * i.size)) e)) := by
  have hb : (i.bytes : Int) * (c : Int) ≤ 281474976710656 := by
    have h : ((i.bytes * c : Nat) : Int) ≤ 281474976710656 := by omega
    rwa [Int.natCast_mul] at h
  have hr := run_make (P := P) w t e i z ht hi hz kl kc n c (by omega) (by omega) hb (by omega)
  simp only [Int.toNat_natCast] at hr
  exact hr
theorem cells_new (W : World) (cs : Array Value) (t : TypeId) : ∀ j u, cs.toList[j]? = some u → (W.alloc (.cells cs t)).cell? ((⟨W.heap.size, 0, none⟩ : Addr).add j) = some u := by
  intro j u hu
  have hadd : (⟨W.heap.size, 0, none⟩ : Addr).add j = ⟨W.heap.size, j, none⟩ := by unfold Addr.add; split <;> simp_all
  rw [hadd, cell_of_row _ _ _ cs t (0, 0) (heap_alloc_last W _), ← hu, Array.getElem?_toList]

/-- Bytes as cells. -/
def u8s (l : List UInt8) : List Value := l.map fun c => .int .u8 ((c.toNat : Nat) : Int)
theorem u8s_append (a b : List UInt8) : u8s (a ++ b) = u8s a ++ u8s b := by simp [u8s]
theorem u8s_length (l : List UInt8) : (u8s l).length = l.length := by simp [u8s]
theorem valueL_append (a b : List UInt8) : valueL (a ++ b) = valueL a ++ valueL b := by simp [valueL]
theorem valueL_length (l : List UInt8) : l.length ≤ (valueL l).length ∧ (valueL l).length ≤ 2 * l.length := by
  induction l with
  | nil => exact ⟨Nat.le_refl _, Nat.le_refl _⟩
  | cons c l ih =>
    have e : valueL (c :: l) = (if marked c = true then [92, c] else [c]) ++ valueL l := rfl
    rw [e, List.length_append, List.length_cons]
    split <;> simp <;> omega
theorem valueL_take (l : List UInt8) (k : Nat) (c : UInt8) (h : l[k]? = some c) : valueL (l.take (k + 1)) = valueL (l.take k) ++ (if marked c = true then [92, c] else [c]) := by
  obtain ⟨hk, hx⟩ := List.getElem?_eq_some_iff.1 h
  rw [List.take_succ_eq_append_getElem hk, valueL_append, hx]
  simp [valueL]
theorem text_of (l : List UInt8) : strOfNums (l.map fun c => ((c.toNat : Nat) : Int)) = bytes l := by
  apply ByteArray.ext
  apply Array.toList_inj.mp
  rw [strOfNums_data, List.map_map]
  show _ = l
  conv => rhs; rw [← List.map_id l]
  apply List.map_congr_left
  intro b _
  simp

theorem convert_row {W : World} {base : Nat} {v : Value} {l : List UInt8} (h : W.ownsRow base 5 1 v l.length (u8s l)) :
    (convert 47 9 v).run Tryz.prog W = .ok (.string (bytes l)) W := by
  obtain ⟨h1, ⟨rfl, h2⟩ | ⟨g, cap, cur, rfl, h3, h4, h5, h6, h7, h8⟩⟩ := h
  · have hl : l = [] := List.length_eq_zero_iff.1 h2
    subst hl
    exact run_convert_bytes_nil (w := W) 47 5 Tryz.underlying47 Tryz.underlying5 0 0 9 Tryz.underlying9
  · rw [← text_of]
    refine run_convert_bytes_arg W 47 5 Tryz.underlying47 Tryz.underlying5 g 0 l.length cap _ (by simp) (fun i hi => ?_) 9 Tryz.underlying9
    have hown : W.ownsRow base 5 1 (.slice (some ⟨g, 0, none⟩) l.length cap) l.length (u8s l) := ⟨h1, .inr ⟨g, cap, cur, rfl, h3, h4, h5, h6, h7, h8⟩⟩
    rw [Nat.zero_add, hown.cellAt i (by omega)]
    simp [u8s, List.getD, List.getElem?_eq_getElem hi]

set_option maxHeartbeats 4000000 in
theorem value_any (s : ByteArray) (w : World) (hs : s.size ≤ 70368744177664) : Calls Tryz.prog 17 #[.string s] w fun e w' => e = .returned (.string (bytes (valueL s.data.toList))) ∧ Below w.heap.size w w' := by
  obtain ⟨i0, hi, hz0, hz1, hz2⟩ := info5_of
  have hmk : ∀ W : World, (Instr.makeSlice 47 (.int .i64 0) (.int .i64 ((s.size : Nat) : Int))).run Tryz.prog W = .ok (.slice (some ⟨W.heap.size, 0, none⟩) 0 s.size) (W.alloc (.cells (madeCells (Value.int .u8 0).cells (s.size * 1)) 5)) := fun W => by
    have h := make_row (P := Tryz.prog) 47 5 i0 (.int .u8 0) Tryz.underlying47 hi hz0 .i64 .i64 0 s.size (by omega) (by rw [hz2]; omega) (by omega) W
    rw [hz1] at h
    exact h
  obtain ⟨Z, hZ⟩ : ∃ Z, madeCells (Value.int .u8 0).cells (s.size * 1) = Z := ⟨_, rfl⟩
  have hZs : Z.size = s.size * 1 := by rw [← hZ]; simp [madeCells, Value.cells]
  rw [hZ] at hmk
  clear hZ
  have HI := Lib.hid hi
  have HI0 := Lib.hid hz0
  have HI1 := Lib.hid hz1
  have HI2 := Lib.hid hz2
  have HZS := Lib.hid hZs
  have hln : s.data.toList.length = s.size := list_size s
  have HLN := Lib.hid hln
  clear hi hz0 hz1 hz2 hZs hln
  go_enter Tryz.func17, Tryz.ntmps17
  go_wp2
  clear hmk
  go_loopw [3, 10] (fun v i wr => ∃ k : Nat, k ≤ s.size ∧ i = .int .i64 k ∧ Hid (wr.ownsRow w.heap.size 5 1 v (valueL (s.data.toList.take k)).length (u8s (valueL (s.data.toList.take k)))) ∧ Below w.heap.size w wr) (fun _ i _ => s.size - (intOf i).toNat)
  case atStart =>
    refine ⟨0, Nat.zero_le _, rfl, Lib.hid ⟨rfl, .inr ⟨w.heap.size, s.size, Z, rfl, Nat.le_refl _, heap_alloc_last w _, Nat.zero_le _, by unfold maxLen; omega, HZS.out, by simp [u8s, valueL]⟩⟩, (Below.refl _ _).alloc (Nat.le_refl _) _⟩
  case round =>
    obtain ⟨k, hk, rfl, hown, hB⟩ := hrel
    by_cases hlt : k < s.size
    · obtain ⟨c, hc⟩ : ∃ c, s.data.toList[k]? = some c := ⟨s.data.toList[k]'(by rw [HLN.out]; exact hlt), List.getElem?_eq_getElem _⟩
      have hat : ((s[k]'hlt).toNat : Int) = ((c.toNat : Nat) : Int) := by
        obtain ⟨hk2, hx⟩ := List.getElem?_eq_some_iff.1 hc
        rw [← hx]
        simp only [Array.getElem_toList]
        rfl
      have hvt := valueL_take _ _ _ hc
      have hv1 := (valueL_length (s.data.toList.take k)).2
      have hv2 : (s.data.toList.take k).length ≤ k := List.length_take_le _ _
      have HVT := Lib.hid hvt
      have hlow := hown.out.lt
      have HLOW := Lib.hid hlow
      have hsz := hB.size
      clear hc hvt hlow
      generalize valueL (s.data.toList.take k) = L at *
      by_cases hm : marked c = true
      · go_wp2_with fail
        refine (marked_any c _).mono ?_
        rintro e w' ⟨rfl, rfl⟩
        have HM := Lib.hid hm
        rw [hm]
        clear hm
        go_wp2_with (first
          | (at_builtin; refine wpList_append_own _ rfl _ _ 47 rfl w.heap.size 5 i0 (.int .u8 0) 1 1 Tryz.underlying47 HI.out HI0.out HI1.out HI2.out rfl (by decide) _ L.length _ rfl (hown.out.alloc _) ⟨_, 0, none⟩ 1 1 [.int .u8 92] rfl rfl (cells_new _ #[.int .u8 92] 5) (by simp [Value.oneCell']) (by unfold maxLen; omega) (by omega) (by simp; omega) ?_; intro v1 w1 hown1 hgrow1 _)
          | (at_builtin; refine wpList_append_own _ rfl _ _ 47 rfl w.heap.size 5 i0 (.int .u8 0) 1 1 Tryz.underlying47 HI.out HI0.out HI1.out HI2.out rfl (by decide) _ (L.length + 1) _ rfl (hown1.alloc _) ⟨_, 0, none⟩ 1 1 [.int .u8 ((c.toNat : Nat) : Int)] rfl rfl (cells_new _ #[.int .u8 ((c.toNat : Nat) : Int)] 5) (by simp [Value.oneCell']) (by unfold maxLen; omega) (by omega) (by have := hgrow1.size; simp at this ⊢; omega) ?_; intro v2 w2 hown2 hgrow2 _))
        go_roundw
        case rel =>
          have B1 : Below w.heap.size w w1 := (hB.alloc hsz _).grown hgrow1 (by simp; omega) (fun g hg => (HLOW.out g hg).1)
          refine ⟨k + 1, by omega, by go_num, Lib.hid ?_, (B1.alloc B1.size _).grown hgrow2 (by have := B1.size; simp; omega) (fun g hg => (hown1.lt g hg).1)⟩
          rw [HVT.out, if_pos HM.out]
          simpa [u8s, List.append_assoc] using hown2
        case measure => simp [intOf]; omega
      · go_wp2_with fail
        refine (marked_any c _).mono ?_
        rintro e w' ⟨rfl, rfl⟩
        have hm' : marked c = false := by simpa using hm
        have HM := Lib.hid hm'
        rw [hm']
        clear hm hm'
        go_wp2_with (at_builtin; refine wpList_append_own _ rfl _ _ 47 rfl w.heap.size 5 i0 (.int .u8 0) 1 1 Tryz.underlying47 HI.out HI0.out HI1.out HI2.out rfl (by decide) _ L.length _ rfl (hown.out.alloc _) ⟨_, 0, none⟩ 1 1 [.int .u8 ((c.toNat : Nat) : Int)] rfl rfl (cells_new _ #[.int .u8 ((c.toNat : Nat) : Int)] 5) (by simp [Value.oneCell']) (by unfold maxLen; omega) (by omega) (by simp; omega) ?_; intro v1 w1 hown1 hgrow1 _)
        go_roundw
        case rel =>
          refine ⟨k + 1, by omega, by go_num, Lib.hid ?_, (hB.alloc hsz _).grown hgrow1 (by simp; omega) (fun g hg => (HLOW.out g hg).1)⟩
          rw [HVT.out, HM.out, if_neg Bool.false_ne_true]
          simpa [u8s] using hown1
        case measure => simp [intOf]; omega
    · obtain rfl : k = s.size := by omega
      have htk : s.data.toList.take s.size = s.data.toList := List.take_of_length_le (by rw [HLN.out]; exact Nat.le_refl _)
      rw [htk] at hown
      have hconv := convert_row hown.out
      have HB := Lib.hid hB
      clear htk hown hB hk hlt HLN HZS HI HI0 HI1 HI2
      obtain ⟨R, hR⟩ : ∃ R, bytes (valueL s.data.toList) = R := ⟨_, rfl⟩
      have HR := Lib.hid hR
      rw [hR] at hconv
      clear hR
      go_wp2
      exact ⟨by simp, _, results_tmp rfl _ _ _, by rw [HR.out]; rfl, HB.out⟩
end Go.Proofs.YtnaijahhogndjaaGreatDoor
