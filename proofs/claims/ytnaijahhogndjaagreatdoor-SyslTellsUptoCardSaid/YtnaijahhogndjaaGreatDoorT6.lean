/- The texts RefPlain, RefSmall, Value, Takes, RefName, Ev, one behind the other. -/
import Derived.Test.YtnaijahhogndjaaGreatDoorT5
import Derived.Laws.AppendOwn
import Derived.Laws.OwnMore
import Derived.Laws.BytesArg
import Derived.Laws.MakeOwn
import Derived.OwnWalk
import Derived.Below
import Derived.Deep.WholeRow
import Derived.Test.YtnaijahhogndjaaGreatDoorT2
import Derived.Test.YtnaijahhogndjaaGreatDoorT1
/- What the document's own Plain answers: is a text a word? -/
namespace Go.Proofs.YtnaijahhogndjaaGreatDoor
open Go.ChangeShapes Go.WideShapes Go.ChangeAt Go.RowKit

set_option maxHeartbeats 4000000 in
set_option maxRecDepth 100000 in
theorem refPlain_any (s : ByteArray) (most : Int) (w : World) (hs : s.size ≤ 9223372036854775807) :
    Calls Tryz.prog 20 #[.string s, .int .i64 most] w fun e w' => e = .returned (.bool (plainB s.data.toList most)) ∧ w' = w := by
  by_cases h0 : 0 < s.size ∧ (s.size : Int) ≤ most
  · have HP := Lib.hid (show plainB s.data.toList most = s.data.toList.all wordByte by unfold plainB; rw [list_size, decide_eq_true h0, Bool.true_and])
    obtain ⟨h1, h2⟩ := h0
    have hne : 1 ≤ (s.size : Int) := by omega
    go_enter Tryz.func20, Tryz.ntmps20
    go_wp2
    go_loop [5] (fun i => ∃ k : Nat, k ≤ s.size ∧ i = .int .i64 k ∧ (s.data.toList.take k).all wordByte = true) (fun i => s.size - (intOf i).toNat)
    case atStart => exact ⟨0, by omega, rfl, rfl⟩
    case round =>
      obtain ⟨k, hk, rfl, hall⟩ := hrel
      have HA := Lib.hid hall
      clear hall
      by_cases hlt : k < s.size
      · by_cases hc : 33 ≤ ((s[k]).toNat : Int) ∧ ((s[k]).toNat : Int) ≤ 126
        · have HN := Lib.hid (show (s.data.toList.take (k + 1)).all wordByte = true by
            rw [take_at s k hlt, List.all_append, HA.out]
            simp only [List.all_cons, List.all_nil, Bool.and_true, Bool.true_and]
            exact decide_eq_true hc)
          obtain ⟨c1, c2⟩ := hc
          go_wp2
          go_round
          case rel => exact ⟨k + 1, by omega, by go_num, HN.out⟩
          case measure => simp [intOf]; omega
        · have HE := Lib.hid (show plainB s.data.toList most = false by
            rw [HP.out, ← Bool.not_eq_true, List.all_eq_true]
            intro hx
            have := hx s[k] (by rw [← List.take_append_drop k s.data.toList, drop_at s k hlt]; simp)
            exact hc (of_decide_eq_true this))
          rcases (show ((s[k]).toNat : Int) < 33 ∨ (33 ≤ ((s[k]).toNat : Int) ∧ 126 < ((s[k]).toNat : Int)) by omega) with h | ⟨h, h'⟩
          all_goals
            clear hc
            go_wp2
            go_ret
            exact ⟨by rw [HE.out]; rfl, rfl⟩
      · obtain rfl : k = s.size := by omega
        have HE := Lib.hid (show plainB s.data.toList most = true by rw [HP.out, ← HA.out, take_all])
        clear hlt
        go_wp2
        go_ret
        exact ⟨by rw [HE.out]; rfl, rfl⟩
  · have HE := Lib.hid (show plainB s.data.toList most = false by unfold plainB; rw [list_size, decide_eq_false h0, Bool.false_and])
    by_cases h1 : s.size = 0
    · have hne : (s.size : Int) < 1 := by omega
      clear h0 h1
      go_enter Tryz.func20, Tryz.ntmps20
      go_wp2
      go_ret
      exact ⟨by rw [HE.out]; rfl, rfl⟩
    · have hne : 1 ≤ (s.size : Int) := by omega
      have h2 : most < (s.size : Int) := by omega
      clear h0 h1
      go_enter Tryz.func20, Tryz.ntmps20
      go_wp2
      go_ret
      exact ⟨by rw [HE.out]; rfl, rfl⟩
end Go.Proofs.YtnaijahhogndjaaGreatDoor
/- What the document's own small functions answer: a word or none, a word of a head, a name. -/
namespace Go.Proofs.YtnaijahhogndjaaGreatDoor
open Go.ChangeShapes Go.WideShapes Go.ChangeAt Go.RowKit

theorem refOr_any (s : ByteArray) (w : World) : Calls Tryz.prog 35 #[.string s] w fun e w' => e = .returned (.string (if s.size = 0 then bytes [45] else s)) ∧ w' = w := by
  by_cases h : s.size = 0
  · have hne := empty_of h
    rw [if_pos h]
    go_enter Tryz.func35, Tryz.ntmps35
    go_wp2
    go_ret
    exact ⟨rfl, rfl⟩
  · have hne := full_of (s := s) (by omega)
    rw [if_neg h]
    go_enter Tryz.func35, Tryz.ntmps35
    go_wp2
    go_ret
    exact ⟨rfl, rfl⟩
set_option maxHeartbeats 1000000 in
set_option maxRecDepth 100000 in
theorem refHead_any (s : ByteArray) (most : Int) (w : World) (hs : s.size ≤ 9223372036854775807) :
    Calls Tryz.prog 48 #[.string s, .int .i64 most] w fun e w' => e = .returned (.bool (wordB s.data.toList most)) ∧ w' = w := by
  have HP := Lib.hid (refPlain_any s most w hs)
  by_cases h : s.size = 0
  · have hne := empty_of h
    have e : wordB s.data.toList most = true := by
      unfold wordB
      rw [decide_eq_true (List.eq_nil_of_length_eq_zero (by rw [list_size]; exact h))]; rfl
    rw [e]
    generalize plainB s.data.toList most = b at HP
    cases b <;>
    · go_enter Tryz.func48, Tryz.ntmps48
      go_wp2_with fail
      refine HP.out.mono ?_
      rintro e w' ⟨rfl, rfl⟩
      go_wp2
      go_ret
      exact ⟨rfl, rfl⟩
  · have hne := full_of (s := s) (by omega)
    have hn : ¬ s.data.toList = [] := fun hx => by have := list_size s; rw [hx] at this; exact h this.symm
    by_cases hm : s.data.toList = [45]
    · have hq : (s.toList == [45]) = true := by rw [Lib.toList_data, beq_iff_eq]; exact hm
      have e : wordB s.data.toList most = false := by unfold wordB; rw [decide_eq_false hn, hm]; rfl
      rw [e]
      clear hn hm e
      generalize plainB s.data.toList most = b at HP
      cases b <;>
      · go_enter Tryz.func48, Tryz.ntmps48
        go_wp2_with fail
        refine HP.out.mono ?_
        rintro e w' ⟨rfl, rfl⟩
        go_wp2
        go_ret
        exact ⟨rfl, rfl⟩
    · have hq : (s.toList == [45]) = false := by rw [Lib.toList_data]; exact beq_eq_false_iff_ne.2 hm
      have e : wordB s.data.toList most = plainB s.data.toList most := by unfold wordB; rw [decide_eq_false hn, decide_eq_true hm]; simp
      rw [e]
      clear hn hm e
      generalize plainB s.data.toList most = b at HP ⊢
      cases b <;>
      · go_enter Tryz.func48, Tryz.ntmps48
        go_wp2_with fail
        refine HP.out.mono ?_
        rintro e w' ⟨rfl, rfl⟩
        go_wp2
        go_ret
        exact ⟨rfl, rfl⟩
end Go.Proofs.YtnaijahhogndjaaGreatDoor
/- What package sysl's Value answers: a value's text, with a mark ahead of each of the three bytes. All memory that was there stays. Condition: the value has at most 2^46 bytes. -/
namespace Go.Proofs.YtnaijahhogndjaaGreatDoor
open Go.ChangeShapes Go.WideShapes Go.ChangeAt Go.RowKit

theorem info5 : (Tryz.prog.info? 5).map (fun i => (i.zero, i.size, i.bytes)) = some (some (.int .u8 0), 1, 1) := by kernel_rfl
theorem info5_of : ∃ i, Tryz.prog.info? 5 = some i ∧ i.zero = some (.int .u8 0) ∧ i.size = 1 ∧ i.bytes = 1 := by
  have h := info5
  cases hi : Tryz.prog.info? 5 with
  | none => rw [hi] at h; cases h
  | some j => rw [hi] at h; simp only [Option.map_some, Option.some.injEq, Prod.mk.injEq] at h; exact ⟨j, rfl, h.1, h.2.1, h.2.2⟩
theorem make_row {P : Program} (t e : TypeId) (i : TypeInfo) (z : Value) (ht : P.underlying t = some (.slice e)) (hi : P.info? e = some i) (hz : i.zero = some z)
    (kl kc : IntKind) (n c : Nat) (hnc : n ≤ c) (hbytes : i.bytes * c ≤ 281474976710656) (h63 : c ≤ 9223372036854775807) (w : World) :
    (Instr.makeSlice t (.int kl (n : Int)) (.int kc (c : Int))).run P w = .ok (.slice (some ⟨w.heap.size, 0, none⟩) n c) (w.alloc (.cells (madeCells z.cells (c * i.size)) e)) := by
  have hb : (i.bytes : Int) * (c : Int) ≤ 281474976710656 := by
    have h : ((i.bytes * c : Nat) : Int) ≤ 281474976710656 := by omega
    rwa [Int.natCast_mul] at h
  have hr := run_make (P := P) w t e i z ht hi hz kl kc n c (by omega) (by omega) hb (by omega)
  simp only [Int.toNat_natCast] at hr
  exact hr
theorem cells_new (W : World) (cs : Array Value) (t : TypeId) : ∀ j u, cs.toList[j]? = some u → (W.alloc (.cells cs t)).cell? ((⟨W.heap.size, 0, none⟩ : Addr).add j) = some u := by
  intro j u hu
  have hadd : (⟨W.heap.size, 0, none⟩ : Addr).add j = ⟨W.heap.size, j, none⟩ := by unfold Addr.add; split <;> simp_all
  rw [hadd, cell_of_row _ _ _ cs t (0, 0) (heap_alloc_last W _), ← hu, Array.getElem?_toList]

/-- Bytes as cells. -/
def u8s (l : List UInt8) : List Value := l.map fun c => .int .u8 ((c.toNat : Nat) : Int)
theorem u8s_append (a b : List UInt8) : u8s (a ++ b) = u8s a ++ u8s b := by simp [u8s]
theorem u8s_length (l : List UInt8) : (u8s l).length = l.length := by simp [u8s]
theorem valueL_append (a b : List UInt8) : valueL (a ++ b) = valueL a ++ valueL b := by simp [valueL]
theorem valueL_length (l : List UInt8) : l.length ≤ (valueL l).length ∧ (valueL l).length ≤ 2 * l.length := by
  induction l with
  | nil => exact ⟨Nat.le_refl _, Nat.le_refl _⟩
  | cons c l ih =>
    have e : valueL (c :: l) = (if marked c = true then [92, c] else [c]) ++ valueL l := rfl
    rw [e, List.length_append, List.length_cons]
    split <;> simp <;> omega
theorem valueL_take (l : List UInt8) (k : Nat) (c : UInt8) (h : l[k]? = some c) : valueL (l.take (k + 1)) = valueL (l.take k) ++ (if marked c = true then [92, c] else [c]) := by
  obtain ⟨hk, hx⟩ := List.getElem?_eq_some_iff.1 h
  rw [List.take_succ_eq_append_getElem hk, valueL_append, hx]
  simp [valueL]
theorem text_of (l : List UInt8) : strOfNums (l.map fun c => ((c.toNat : Nat) : Int)) = bytes l := by
  apply ByteArray.ext
  apply Array.toList_inj.mp
  rw [strOfNums_data, List.map_map]
  show _ = l
  conv => rhs; rw [← List.map_id l]
  apply List.map_congr_left
  intro b _
  simp

theorem convert_row {W : World} {base : Nat} {v : Value} {l : List UInt8} (h : W.ownsRow base 5 1 v l.length (u8s l)) :
    (convert 47 9 v).run Tryz.prog W = .ok (.string (bytes l)) W := by
  obtain ⟨h1, ⟨rfl, h2⟩ | ⟨g, cap, cur, rfl, h3, h4, h5, h6, h7, h8⟩⟩ := h
  · have hl : l = [] := List.length_eq_zero_iff.1 h2
    subst hl
    exact run_convert_bytes_nil (w := W) 47 5 Tryz.underlying47 Tryz.underlying5 0 0 9 Tryz.underlying9
  · rw [← text_of]
    refine run_convert_bytes_arg W 47 5 Tryz.underlying47 Tryz.underlying5 g 0 l.length cap _ (by simp) (fun i hi => ?_) 9 Tryz.underlying9
    have hown : W.ownsRow base 5 1 (.slice (some ⟨g, 0, none⟩) l.length cap) l.length (u8s l) := ⟨h1, .inr ⟨g, cap, cur, rfl, h3, h4, h5, h6, h7, h8⟩⟩
    rw [Nat.zero_add, hown.cellAt i (by omega)]
    simp [u8s, List.getD, List.getElem?_eq_getElem hi]

set_option maxHeartbeats 4000000 in
theorem value_any (s : ByteArray) (w : World) (hs : s.size ≤ 70368744177664) : Calls Tryz.prog 17 #[.string s] w fun e w' => e = .returned (.string (bytes (valueL s.data.toList))) ∧ Below w.heap.size w w' := by
  obtain ⟨i0, hi, hz0, hz1, hz2⟩ := info5_of
  have hmk : ∀ W : World, (Instr.makeSlice 47 (.int .i64 0) (.int .i64 ((s.size : Nat) : Int))).run Tryz.prog W = .ok (.slice (some ⟨W.heap.size, 0, none⟩) 0 s.size) (W.alloc (.cells (madeCells (Value.int .u8 0).cells (s.size * 1)) 5)) := fun W => by
    have h := make_row (P := Tryz.prog) 47 5 i0 (.int .u8 0) Tryz.underlying47 hi hz0 .i64 .i64 0 s.size (by omega) (by rw [hz2]; omega) (by omega) W
    rw [hz1] at h
    exact h
  obtain ⟨Z, hZ⟩ : ∃ Z, madeCells (Value.int .u8 0).cells (s.size * 1) = Z := ⟨_, rfl⟩
  have hZs : Z.size = s.size * 1 := by rw [← hZ]; simp [madeCells, Value.cells]
  rw [hZ] at hmk
  clear hZ
  have HI := Lib.hid hi
  have HI0 := Lib.hid hz0
  have HI1 := Lib.hid hz1
  have HI2 := Lib.hid hz2
  have HZS := Lib.hid hZs
  have hln : s.data.toList.length = s.size := list_size s
  have HLN := Lib.hid hln
  clear hi hz0 hz1 hz2 hZs hln
  go_enter Tryz.func17, Tryz.ntmps17
  go_wp2
  clear hmk
  go_loopw [3, 10] (fun v i wr => ∃ k : Nat, k ≤ s.size ∧ i = .int .i64 k ∧ Hid (wr.ownsRow w.heap.size 5 1 v (valueL (s.data.toList.take k)).length (u8s (valueL (s.data.toList.take k)))) ∧ Below w.heap.size w wr) (fun _ i _ => s.size - (intOf i).toNat)
  case atStart =>
    refine ⟨0, Nat.zero_le _, rfl, Lib.hid ⟨rfl, .inr ⟨w.heap.size, s.size, Z, rfl, Nat.le_refl _, heap_alloc_last w _, Nat.zero_le _, by unfold maxLen; omega, HZS.out, by simp [u8s, valueL]⟩⟩, (Below.refl _ _).alloc (Nat.le_refl _) _⟩
  case round =>
    obtain ⟨k, hk, rfl, hown, hB⟩ := hrel
    by_cases hlt : k < s.size
    · obtain ⟨c, hc⟩ : ∃ c, s.data.toList[k]? = some c := ⟨s.data.toList[k]'(by rw [HLN.out]; exact hlt), List.getElem?_eq_getElem _⟩
      have hat : ((s[k]'hlt).toNat : Int) = ((c.toNat : Nat) : Int) := by
        obtain ⟨hk2, hx⟩ := List.getElem?_eq_some_iff.1 hc
        rw [← hx]
        simp only [Array.getElem_toList]
        rfl
      have hvt := valueL_take _ _ _ hc
      have hv1 := (valueL_length (s.data.toList.take k)).2
      have hv2 : (s.data.toList.take k).length ≤ k := List.length_take_le _ _
      have HVT := Lib.hid hvt
      have hlow := hown.out.lt
      have HLOW := Lib.hid hlow
      have hsz := hB.size
      clear hc hvt hlow
      generalize valueL (s.data.toList.take k) = L at *
      by_cases hm : marked c = true
      · go_wp2_with fail
        refine (marked_any c _).mono ?_
        rintro e w' ⟨rfl, rfl⟩
        have HM := Lib.hid hm
        rw [hm]
        clear hm
        go_wp2_with (first
          | (at_builtin; refine wpList_append_own _ rfl _ _ 47 rfl w.heap.size 5 i0 (.int .u8 0) 1 1 Tryz.underlying47 HI.out HI0.out HI1.out HI2.out rfl (by decide) _ L.length _ rfl (hown.out.alloc _) ⟨_, 0, none⟩ 1 1 [.int .u8 92] rfl rfl (cells_new _ #[.int .u8 92] 5) (by simp [Value.oneCell']) (by unfold maxLen; omega) (by omega) (by simp; omega) ?_; intro v1 w1 hown1 hgrow1 _)
          | (at_builtin; refine wpList_append_own _ rfl _ _ 47 rfl w.heap.size 5 i0 (.int .u8 0) 1 1 Tryz.underlying47 HI.out HI0.out HI1.out HI2.out rfl (by decide) _ (L.length + 1) _ rfl (hown1.alloc _) ⟨_, 0, none⟩ 1 1 [.int .u8 ((c.toNat : Nat) : Int)] rfl rfl (cells_new _ #[.int .u8 ((c.toNat : Nat) : Int)] 5) (by simp [Value.oneCell']) (by unfold maxLen; omega) (by omega) (by have := hgrow1.size; simp at this ⊢; omega) ?_; intro v2 w2 hown2 hgrow2 _))
        go_roundw
        case rel =>
          have B1 : Below w.heap.size w w1 := (hB.alloc hsz _).grown hgrow1 (by simp; omega) (fun g hg => (HLOW.out g hg).1)
          refine ⟨k + 1, by omega, by go_num, Lib.hid ?_, (B1.alloc B1.size _).grown hgrow2 (by have := B1.size; simp; omega) (fun g hg => (hown1.lt g hg).1)⟩
          rw [HVT.out, if_pos HM.out]
          simpa [u8s, List.append_assoc] using hown2
        case measure => simp [intOf]; omega
      · go_wp2_with fail
        refine (marked_any c _).mono ?_
        rintro e w' ⟨rfl, rfl⟩
        have hm' : marked c = false := by simpa using hm
        have HM := Lib.hid hm'
        rw [hm']
        clear hm hm'
        go_wp2_with (at_builtin; refine wpList_append_own _ rfl _ _ 47 rfl w.heap.size 5 i0 (.int .u8 0) 1 1 Tryz.underlying47 HI.out HI0.out HI1.out HI2.out rfl (by decide) _ L.length _ rfl (hown.out.alloc _) ⟨_, 0, none⟩ 1 1 [.int .u8 ((c.toNat : Nat) : Int)] rfl rfl (cells_new _ #[.int .u8 ((c.toNat : Nat) : Int)] 5) (by simp [Value.oneCell']) (by unfold maxLen; omega) (by omega) (by simp; omega) ?_; intro v1 w1 hown1 hgrow1 _)
        go_roundw
        case rel =>
          refine ⟨k + 1, by omega, by go_num, Lib.hid ?_, (hB.alloc hsz _).grown hgrow1 (by simp; omega) (fun g hg => (HLOW.out g hg).1)⟩
          rw [HVT.out, HM.out, if_neg Bool.false_ne_true]
          simpa [u8s] using hown1
        case measure => simp [intOf]; omega
    · obtain rfl : k = s.size := by omega
      have htk : s.data.toList.take s.size = s.data.toList := List.take_of_length_le (by rw [HLN.out]; exact Nat.le_refl _)
      rw [htk] at hown
      have hconv := convert_row hown.out
      have HB := Lib.hid hB
      clear htk hown hB hk hlt HLN HZS HI HI0 HI1 HI2
      obtain ⟨R, hR⟩ : ∃ R, bytes (valueL s.data.toList) = R := ⟨_, rfl⟩
      have HR := Lib.hid hR
      rw [hR] at hconv
      clear hR
      go_wp2
      exact ⟨by simp, _, results_tmp rfl _ _ _, by rw [HR.out]; rfl, HB.out⟩
end Go.Proofs.YtnaijahhogndjaaGreatDoor
/- What package sysl takes off a value's text (function `value`): the value up to the " that ends it, and what is left. -/
namespace Go.Proofs.YtnaijahhogndjaaGreatDoor
open Go.ChangeShapes Go.WideShapes Go.ChangeAt Go.RowKit

/-- A value's text, read up to the " that ends it: the value, and what is left. -/
def takeV : List UInt8 → Option (List UInt8 × List UInt8)
  | [] => none
  | [c] => if c = 34 then some ([], []) else none
  | c :: d :: r => if c = 34 then some ([], d :: r) else if c = 93 then none else
      if c = 92 ∧ marked d = true then (takeV r).map fun p => (d :: p.1, p.2)
      else (takeV (d :: r)).map fun p => (c :: p.1, p.2)
def ends3 (o : Option (List UInt8 × List UInt8)) : Ending := match o with
  | some p => .returned (.tuple #[.string (bytes p.1), .string (bytes p.2), .bool true])
  | none => .returned (.tuple #[.string ⟨#[]⟩, .string ⟨#[]⟩, .bool false])

theorem takeV_end (l : List UInt8) (k : Nat) (h : l.length ≤ k) : takeV (l.drop k) = none := by
  rw [List.drop_of_length_le h]; rfl
theorem takeV_quote (l : List UInt8) (k : Nat) (h : l[k]? = some 34) : takeV (l.drop k) = some ([], l.drop (k + 1)) := by
  obtain ⟨hk, hx⟩ := List.getElem?_eq_some_iff.1 h
  rw [List.drop_eq_getElem_cons hk, hx]
  cases l.drop (k + 1) <;> rfl
theorem takeV_square (l : List UInt8) (k : Nat) (h : l[k]? = some 93) : takeV (l.drop k) = none := by
  obtain ⟨hk, hx⟩ := List.getElem?_eq_some_iff.1 h
  rw [List.drop_eq_getElem_cons hk, hx]
  cases l.drop (k + 1) <;> rfl
theorem takeV_two (l : List UInt8) (k : Nat) (d : UInt8) (h : l[k]? = some 92) (h2 : l[k + 1]? = some d) (hd : marked d = true) : takeV (l.drop k) = (takeV (l.drop (k + 2))).map fun p => (d :: p.1, p.2) := by
  obtain ⟨hk, hx⟩ := List.getElem?_eq_some_iff.1 h
  obtain ⟨hk2, hx2⟩ := List.getElem?_eq_some_iff.1 h2
  rw [List.drop_eq_getElem_cons hk, hx, List.drop_eq_getElem_cons hk2, hx2, takeV, if_neg (by decide), if_neg (by decide), if_pos ⟨rfl, hd⟩]
theorem takeV_one (l : List UInt8) (k : Nat) (c : UInt8) (h : l[k]? = some c) (h1 : c ≠ 34) (h2 : c ≠ 93) (h3 : ∀ d, c = 92 → l[k + 1]? = some d → marked d = false) : takeV (l.drop k) = (takeV (l.drop (k + 1))).map fun p => (c :: p.1, p.2) := by
  obtain ⟨hk, hx⟩ := List.getElem?_eq_some_iff.1 h
  rw [List.drop_eq_getElem_cons hk, hx]
  cases hr : l.drop (k + 1) with
  | nil => show (if c = 34 then some ([], []) else none) = _; rw [if_neg h1]; rfl
  | cons d r =>
    have hd : l[k + 1]? = some d := by
      have := congrArg (fun x => x[0]?) hr
      simpa [List.getElem?_drop] using this
    rw [takeV, if_neg h1, if_neg h2, if_neg (fun h => by have := h3 d h.1 hd; rw [h.2] at this; cases this)]

theorem u8_eq {c : UInt8} {n : Nat} (hn : n < 256) (h : c.toNat = n) : c = n.toUInt8 := by
  apply UInt8.toNat_inj.1
  rw [h]
  simp
  omega
theorem drop_bytes (s : ByteArray) (k : Nat) : s.extract k s.size = bytes (s.data.toList.drop k) := by
  rw [Lib.extract_eq]
  have h := list_size s
  rw [List.take_of_length_le (by rw [List.length_drop]; omega)]
  rfl

set_option maxHeartbeats 4000000 in
set_option maxRecDepth 100000 in
theorem takes_any (s : ByteArray) (w : World) (hs : s.size ≤ 70368744177664) : Calls Tryz.prog 120 #[.string s] w fun e w' => e = ends3 (takeV s.data.toList) ∧ Below w.heap.size w w' := by
  obtain ⟨i0, hi, hz0, hz1, hz2⟩ := info5_of
  have HI := Lib.hid hi
  have HI0 := Lib.hid hz0
  have HI1 := Lib.hid hz1
  have HI2 := Lib.hid hz2
  have hln : s.data.toList.length = s.size := list_size s
  have HLN := Lib.hid hln
  clear hi hz0 hz1 hz2 hln
  go_enter Tryz.func120, Tryz.ntmps120
  go_wp2
  go_loopw [5, 6] (fun v i wr => ∃ (k : Nat) (pre : List UInt8), k ≤ s.size ∧ pre.length ≤ k ∧ i = .int .i64 k ∧ Hid (takeV s.data.toList = (takeV (s.data.toList.drop k)).map fun p => (pre ++ p.1, p.2)) ∧ Hid (wr.ownsRow w.heap.size 5 1 v pre.length (u8s pre)) ∧ Below w.heap.size w wr) (fun _ i _ => s.size - (intOf i).toNat)
  case atStart =>
    refine ⟨0, [], Nat.zero_le _, Nat.le_refl _, rfl, Lib.hid ?_, Lib.hid (World.ownsRow_nil _ _ _ _), Below.refl _ _⟩
    rw [List.drop_zero]
    cases takeV s.data.toList <;> rfl
  case round =>
    obtain ⟨k, pre, hk, hp, rfl, HT, hown, hB⟩ := hrel
    have hlow := hown.out.lt
    have HLOW := Lib.hid hlow
    have hsz := hB.size
    have HB := Lib.hid hB
    clear hlow
    by_cases hlt : k < s.size
    · obtain ⟨c, hc⟩ : ∃ c, s.data.toList[k]? = some c := ⟨s.data.toList[k]'(by rw [HLN.out]; exact hlt), List.getElem?_eq_getElem _⟩
      have hat : ((s[k]'hlt).toNat : Int) = ((c.toNat : Nat) : Int) := by
        obtain ⟨hk2, hx⟩ := List.getElem?_eq_some_iff.1 hc
        rw [← hx]
        simp only [Array.getElem_toList]
        rfl
      by_cases h34 : c = 34
      · subst h34
        have hconv := convert_row (W := wr.drew) (v := u5) (l := pre) (base := w.heap.size) hown.out
        have HQ := Lib.hid (takeV_quote _ _ hc)
        rw [show (((34 : UInt8).toNat : Nat) : Int) = 34 from rfl] at hat
        have hw : IntKind.i64.wrap ((k : Int) + 1) = ((k + 1 : Nat) : Int) := by rw [IntWalk.i64_in _ (by omega)]; omega
        clear hc
        go_wp2
        go_region
        go_wp2
        refine ⟨by simp, _, results_tmp3 rfl _ _ _, ?_, HB.out.drew⟩
        rw [HT.out, HQ.out]
        simp [ends3, drop_bytes]
      · have n34 : ¬ (((c.toNat : Nat) : Int) = 34) := fun h => h34 (u8_eq (n := 34) (by omega) (by omega))
        by_cases h93 : c = 93
        · subst h93
          have HQ := Lib.hid (takeV_square _ _ hc)
          rw [show (((93 : UInt8).toNat : Nat) : Int) = 93 from rfl] at hat
          clear hc n34 h34
          go_wp2
          refine ⟨by simp, _, results_tmp3 rfl _ _ _, ?_, HB.out⟩
          rw [HT.out, HQ.out]
          rfl
        · have n93 : ¬ (((c.toNat : Nat) : Int) = 93) := fun h => h93 (u8_eq (n := 93) (by omega) (by omega))
          have hw : IntKind.i64.wrap ((k : Int) + 1) = ((k + 1 : Nat) : Int) := by rw [IntWalk.i64_in _ (by omega)]; omega
          by_cases h92 : c = 92
          · subst h92
            rw [show (((92 : UInt8).toNat : Nat) : Int) = 92 from rfl] at hat
            clear n34 n93
            by_cases hl2 : k + 1 < s.size
            · obtain ⟨d, hd⟩ : ∃ d, s.data.toList[k + 1]? = some d := ⟨s.data.toList[k + 1]'(by rw [HLN.out]; exact hl2), List.getElem?_eq_getElem _⟩
              have hat2 : ((s[k + 1]'hl2).toNat : Int) = ((d.toNat : Nat) : Int) := by
                obtain ⟨hk2, hx⟩ := List.getElem?_eq_some_iff.1 hd
                rw [← hx]
                simp only [Array.getElem_toList]
                rfl
              by_cases hm : marked d = true
              · have HQ := Lib.hid (takeV_two _ _ _ hc hd hm)
                have HM := Lib.hid hm
                clear hc hd
                go_wp2_with (first | (at_builtin; refine wpList_append_own _ rfl _ _ 47 rfl w.heap.size 5 i0 (.int .u8 0) 1 1 Tryz.underlying47 HI.out HI0.out HI1.out HI2.out rfl (by decide) _ pre.length _ rfl (hown.out.alloc _) ⟨_, 0, none⟩ 1 1 [.int .u8 ((d.toNat : Nat) : Int)] rfl rfl (cells_new _ #[.int .u8 ((d.toNat : Nat) : Int)] 5) (by simp [Value.oneCell']) (by unfold maxLen; omega) (by omega) (by simp; omega) ?_; intro v1 w1 hown1 hgrow1 _) | (refine (marked_any d _).mono ?_; rintro e w' ⟨rfl, rfl⟩; rw [hm]))
                go_roundw
                case rel =>
                  refine ⟨k + 2, pre ++ [d], by omega, by simp; omega, by go_num, Lib.hid ?_, Lib.hid ?_, (HB.out.alloc hsz _).grown hgrow1 (by simp; omega) (fun g hg => (HLOW.out g hg).1)⟩
                  · rw [HT.out, HQ.out]
                    cases takeV (s.data.toList.drop (k + 2)) <;> simp
                  · simpa [u8s] using hown1
                case measure => simp [intOf]; omega
              · have hm' : marked d = false := by simpa using hm
                have HQ := Lib.hid (takeV_one _ _ _ hc (by decide) (by decide) (fun d' _ h' => by rw [hd] at h'; cases h'; exact hm'))
                clear hc hd hm
                go_wp2_with (first | (at_builtin; refine wpList_append_own _ rfl _ _ 47 rfl w.heap.size 5 i0 (.int .u8 0) 1 1 Tryz.underlying47 HI.out HI0.out HI1.out HI2.out rfl (by decide) _ pre.length _ rfl (hown.out.alloc _) ⟨_, 0, none⟩ 1 1 [.int .u8 92] rfl rfl (cells_new _ #[.int .u8 92] 5) (by simp [Value.oneCell']) (by unfold maxLen; omega) (by omega) (by simp; omega) ?_; intro v1 w1 hown1 hgrow1 _) | (refine (marked_any d _).mono ?_; rintro e w' ⟨rfl, rfl⟩; rw [hm']))
                go_roundw
                case rel =>
                  refine ⟨k + 1, pre ++ [92], by omega, by simp; omega, by go_num, Lib.hid ?_, Lib.hid ?_, (HB.out.alloc hsz _).grown hgrow1 (by simp; omega) (fun g hg => (HLOW.out g hg).1)⟩
                  · rw [HT.out, HQ.out]
                    cases takeV (s.data.toList.drop (k + 1)) <;> simp
                  · simpa [u8s] using hown1
                case measure => simp [intOf]; omega
            · have HQ := Lib.hid (takeV_one _ _ _ hc (by decide) (by decide) (fun d' _ h' => absurd (List.getElem?_eq_some_iff.1 h').1 (by rw [HLN.out]; exact hl2)))
              clear hc
              go_wp2_with (at_builtin; refine wpList_append_own _ rfl _ _ 47 rfl w.heap.size 5 i0 (.int .u8 0) 1 1 Tryz.underlying47 HI.out HI0.out HI1.out HI2.out rfl (by decide) _ pre.length _ rfl (hown.out.alloc _) ⟨_, 0, none⟩ 1 1 [.int .u8 92] rfl rfl (cells_new _ #[.int .u8 92] 5) (by simp [Value.oneCell']) (by unfold maxLen; omega) (by omega) (by simp; omega) ?_; intro v1 w1 hown1 hgrow1 _)
              go_roundw
              case rel =>
                refine ⟨k + 1, pre ++ [92], by omega, by simp; omega, by go_num, Lib.hid ?_, Lib.hid ?_, (HB.out.alloc hsz _).grown hgrow1 (by simp; omega) (fun g hg => (HLOW.out g hg).1)⟩
                · rw [HT.out, HQ.out]
                  cases takeV (s.data.toList.drop (k + 1)) <;> simp
                · simpa [u8s] using hown1
              case measure => simp [intOf]; omega
          · have HQ := Lib.hid (takeV_one _ _ _ hc h34 h93 (fun _ h => absurd h h92))
            have n92 : ¬ (((c.toNat : Nat) : Int) = 92) := fun h => h92 (u8_eq (n := 92) (by omega) (by omega))
            clear hc h34 h93 h92
            go_wp2_with ((at_builtin; refine wpList_append_own _ rfl _ _ 47 rfl w.heap.size 5 i0 (.int .u8 0) 1 1 Tryz.underlying47 HI.out HI0.out HI1.out HI2.out rfl (by decide) _ pre.length _ rfl (hown.out.alloc _) ⟨_, 0, none⟩ 1 1 [.int .u8 ((c.toNat : Nat) : Int)] rfl rfl (cells_new _ #[.int .u8 ((c.toNat : Nat) : Int)] 5) (by simp [Value.oneCell']) (by unfold maxLen; omega) (by omega) (by simp; omega) ?_; intro v1 w1 hown1 hgrow1 _))
            go_roundw
            case rel =>
              refine ⟨k + 1, pre ++ [c], by omega, by simp; omega, by go_num, Lib.hid ?_, Lib.hid ?_, (HB.out.alloc hsz _).grown hgrow1 (by simp; omega) (fun g hg => (HLOW.out g hg).1)⟩
              · rw [HT.out, HQ.out]
                cases takeV (s.data.toList.drop (k + 1)) <;> simp
              · simpa [u8s] using hown1
            case measure => simp [intOf]; omega
    · have HE := Lib.hid (takeV_end s.data.toList k (by rw [HLN.out]; omega))
      obtain rfl : k = s.size := by omega
      clear hk hlt hB hown
      go_wp2
      refine ⟨by simp, _, results_tmp3 rfl _ _ _, ?_, HB.out⟩
      rw [HT.out, HE.out]
      rfl
end Go.Proofs.YtnaijahhogndjaaGreatDoor
/- What the document's own name answers: is a text a name? -/
namespace Go.Proofs.YtnaijahhogndjaaGreatDoor
open Go.ChangeShapes Go.WideShapes Go.ChangeAt Go.RowKit

set_option maxHeartbeats 4000000 in
set_option maxRecDepth 100000 in
theorem refName_any (s : ByteArray) (w : World) (hs : s.size ≤ 9223372036854775807) :
    Calls Tryz.prog 49 #[.string s] w fun e w' => e = .returned (.bool (nameB s.data.toList)) ∧ w' = w := by
  have HP := Lib.hid (refPlain_any s 32 w hs)
  have hln : s.data.toList.length = s.size := list_size s
  have HLN := Lib.hid hln
  clear hln
  by_cases hp : plainB s.data.toList 32 = true
  · have e : nameB s.data.toList = !(Lib.containsAny s.data.toList [61, 93, 34]) := by unfold nameB; rw [hp]; rfl
    rw [e]
    rw [hp] at HP
    clear e hp
    go_enter Tryz.func49, Tryz.ntmps49
    go_wp2_with fail
    refine HP.out.mono ?_
    rintro e w' ⟨rfl, rfl⟩
    go_wp2
    go_loop [4] (fun i => ∃ k : Nat, k ≤ s.size ∧ i = .int .i64 k ∧ Hid (Lib.NoAny s.data.toList [61, 93, 34] k)) (fun i => s.size - (intOf i).toNat)
    case atStart => exact ⟨0, by omega, rfl, Lib.hid (Lib.NoAny.zero _ _)⟩
    case round =>
      obtain ⟨k, hk, rfl, HN⟩ := hrel
      by_cases hlt : k < s.size
      · obtain ⟨c, hc⟩ : ∃ c, s.data.toList[k]? = some c := ⟨s.data.toList[k]'(by rw [HLN.out]; exact hlt), List.getElem?_eq_getElem _⟩
        have hat : ((s[k]'hlt).toNat : Int) = ((c.toNat : Nat) : Int) := by
          obtain ⟨hk2, hx⟩ := List.getElem?_eq_some_iff.1 hc
          rw [← hx]
          simp only [Array.getElem_toList]
          rfl
        have HC := Lib.hid hc
        clear hc
        by_cases hin : [61, 93, 34].contains c = true
        · have HH := Lib.hid (show Lib.containsAny s.data.toList [61, 93, 34] = true by
            unfold Lib.containsAny
            rw [Lib.indexAny_hit HN.out HC.out hin]
            exact decide_eq_true (by omega))
          have h3 : c = 61 ∨ c = 93 ∨ c = 34 := by simpa using hin
          clear hin
          rcases h3 with rfl | rfl | rfl
          · rw [show (((61 : UInt8).toNat : Nat) : Int) = 61 from rfl] at hat
            go_wp2
            go_ret
            exact ⟨by rw [HH.out]; rfl, rfl⟩
          · rw [show (((93 : UInt8).toNat : Nat) : Int) = 93 from rfl] at hat
            go_wp2
            go_ret
            exact ⟨by rw [HH.out]; rfl, rfl⟩
          · rw [show (((34 : UInt8).toNat : Nat) : Int) = 34 from rfl] at hat
            go_wp2
            go_ret
            exact ⟨by rw [HH.out]; rfl, rfl⟩
        · have h3 : ¬ (c = 61 ∨ c = 93 ∨ c = 34) := fun h => hin (by simpa using h)
          have hf : [61, 93, 34].contains c = false := by simpa using hin
          have HF := Lib.hid hf
          have q61 : (((c.toNat : Nat) : Int) == 61) = false := beq_eq_false_iff_ne.2 fun h => h3 (.inl (u8_eq (n := 61) (by omega) (by omega)))
          have q93 : (((c.toNat : Nat) : Int) == 93) = false := beq_eq_false_iff_ne.2 fun h => h3 (.inr (.inl (u8_eq (n := 93) (by omega) (by omega))))
          have q34 : (((c.toNat : Nat) : Int) == 34) = false := beq_eq_false_iff_ne.2 fun h => h3 (.inr (.inr (u8_eq (n := 34) (by omega) (by omega))))
          clear h3 hin hf
          go_wp2
          go_round
          case rel => exact ⟨k + 1, by omega, by go_num, Lib.hid (HN.out.succ HC.out HF.out)⟩
          case measure => simp [intOf]; omega
      · obtain rfl : k = s.size := by omega
        have HH := Lib.hid (show Lib.containsAny s.data.toList [61, 93, 34] = false by
          unfold Lib.containsAny
          rw [Lib.indexAny_none (by rw [HLN.out]; exact HN.out)]
          rfl)
        clear hlt
        go_wp2
        go_ret
        exact ⟨by rw [HH.out]; rfl, rfl⟩
  · have hf : plainB s.data.toList 32 = false := by simpa using hp
    have e : nameB s.data.toList = false := by unfold nameB; rw [hf]; rfl
    rw [hf] at HP
    rw [e]
    clear hp hf e
    go_enter Tryz.func49, Tryz.ntmps49
    go_wp2_with fail
    refine HP.out.mono ?_
    rintro e w' ⟨rfl, rfl⟩
    go_wp2
    go_ret
    exact ⟨rfl, rfl⟩
end Go.Proofs.YtnaijahhogndjaaGreatDoor
/- How a message's elements lie in memory; the tables that the functions read. No call is spoken of. -/
namespace Go.Proofs.YtnaijahhogndjaaGreatDoor
open Go.ChangeShapes Go.WideShapes Go.ChangeAt Go.RowKit

abbrev Prm := ByteArray × ByteArray
abbrev Elm := ByteArray × List Prm
/-- A slice's value holds these parameters. -/
def PrmsAt (w : World) (v : Value) (ps : List Prm) : Prop :=
  ∃ (a : Option Addr) (c : Nat), v = .slice a ps.length c ∧ (0 < ps.length → ∃ b o : Nat, a = some ⟨b, o, none⟩ ∧ b < w.heap.size ∧
    ∀ j p, ps[j]? = some p → w.cell? ⟨b, o + 2 * j, none⟩ = some (.string p.1) ∧ w.cell? ⟨b, o + 2 * j + 1, none⟩ = some (.string p.2))
/-- A slice's value holds these elements. -/
def ElmsAt (w : World) (v : Value) (es : List Elm) : Prop :=
  ∃ (a : Option Addr) (c : Nat), v = .slice a es.length c ∧ (0 < es.length → ∃ b o : Nat, a = some ⟨b, o, none⟩ ∧ b < w.heap.size ∧
    ∀ j e, es[j]? = some e → ∃ lv, w.cell? ⟨b, o + 2 * j, none⟩ = some (.string e.1) ∧ w.cell? ⟨b, o + 2 * j + 1, none⟩ = some lv ∧ PrmsAt w lv e.2)
theorem PrmsAt.below {w w' : World} {v : Value} {ps : List Prm} (h : PrmsAt w v ps) (hb : Below w.heap.size w w') : PrmsAt w' v ps := by
  obtain ⟨a, c, rfl, h⟩ := h
  refine ⟨a, c, rfl, fun hn => ?_⟩
  obtain ⟨b, o, rfl, hlt, hc⟩ := h hn
  exact ⟨b, o, rfl, Nat.lt_of_lt_of_le hlt hb.size, fun j p hp => ⟨(hb.cell (p := ⟨b, _, none⟩) hlt).trans (hc j p hp).1, (hb.cell (p := ⟨b, _, none⟩) hlt).trans (hc j p hp).2⟩⟩
theorem ElmsAt.below {w w' : World} {v : Value} {es : List Elm} (h : ElmsAt w v es) (hb : Below w.heap.size w w') : ElmsAt w' v es := by
  obtain ⟨a, c, rfl, h⟩ := h
  refine ⟨a, c, rfl, fun hn => ?_⟩
  obtain ⟨b, o, rfl, hlt, hc⟩ := h hn
  refine ⟨b, o, rfl, Nat.lt_of_lt_of_le hlt hb.size, fun j e he => ?_⟩
  obtain ⟨lv, c1, c2, hp⟩ := hc j e he
  exact ⟨lv, (hb.cell (p := ⟨b, _, none⟩) hlt).trans c1, (hb.cell (p := ⟨b, _, none⟩) hlt).trans c2, hp.below hb⟩
theorem PrmsAt.nil (w : World) (a : Option Addr) (c : Nat) : PrmsAt w (.slice a 0 c) [] := ⟨a, c, rfl, fun h => absurd h (by decide)⟩
theorem ElmsAt.nil (w : World) (a : Option Addr) (c : Nat) : ElmsAt w (.slice a 0 c) [] := ⟨a, c, rfl, fun h => absurd h (by decide)⟩

/-- The tables stand: the months' lengths, and those of unicode/utf8. -/
def Std (w : World) : Prop := Cal.Tab w ∧ Lib.Utf8Tabs 0 1 w
theorem Std.below {w w' : World} (h : Std w) (hb : Below w.heap.size w w') : Std w' := ⟨h.1.below hb, Utf8Tabs_below h.2 hb⟩
theorem valid_any (s : ByteArray) (w : World) (hs : s.size ≤ 9223372036854775807) (h : Std w) :
    Calls Tryz.prog 44 #[.string s] w fun e w' => e = .returned (.bool (Lib.validD s.data.toList)) ∧ Below w.heap.size w w' := Tryz.utf8_ValidString s w hs h.2

/-! ### the first place at which something holds -/
def fstI {α : Type} (p : α → Bool) (l : List α) : Int := if l.findIdx p < l.length then (l.findIdx p : Int) else -1
theorem fstI_at {α : Type} {p : α → Bool} {l : List α} {k : Nat} {x : α} (hx : l[k]? = some x) (hp : p x = true) (hn : ∀ y ∈ l.take k, p y = false) : fstI p l = k := by
  have hk : k < l.length := by
    rcases Nat.lt_or_ge k l.length with h | h
    · exact h
    · rw [List.getElem?_eq_none h] at hx; cases hx
  have hxe : l[k] = x := by rw [List.getElem?_eq_getElem hk] at hx; exact Option.some.inj hx
  have e : l.findIdx p = k := by
    rw [List.findIdx_eq hk]
    refine ⟨by rw [hxe]; exact hp, fun j hj => ?_⟩
    have := hn l[j] (by rw [List.mem_take_iff_getElem]; exact ⟨j, by omega, rfl⟩)
    simpa using this
  unfold fstI
  rw [e, if_pos hk]
theorem fstI_none {α : Type} {p : α → Bool} {l : List α} (h : ∀ y ∈ l, p y = false) : fstI p l = -1 := by
  unfold fstI
  rw [if_neg]
  intro hlt
  have := List.findIdx_getElem (w := hlt)
  rw [h _ (List.getElem_mem hlt)] at this
  cases this
theorem fstI_any {α : Type} (p : α → Bool) (l : List α) : (0 ≤ fstI p l) = (l.any p = true) := by
  apply propext
  unfold fstI
  split
  · rename_i h
    constructor
    · intro _
      rw [List.any_eq_true]
      exact ⟨l[l.findIdx p], List.getElem_mem h, List.findIdx_getElem⟩
    · intro _; omega
  · rename_i h
    constructor
    · intro h'; omega
    · intro hx
      rw [List.any_eq_true] at hx
      obtain ⟨x, hx1, hx2⟩ := hx
      exact absurd (List.findIdx_lt_length_of_exists ⟨x, hx1, hx2⟩) h
end Go.Proofs.YtnaijahhogndjaaGreatDoor
