/- The texts Value, Takes, RefFind, ValueLists, RefTakes, RefBegins, one behind the other. -/
import Derived.Test.YtmmghppjhmdikaaGreatDoorAF3
import Derived.Laws.AppendOwn
import Derived.Laws.OwnMore
import Derived.Laws.BytesArg
import Derived.Laws.MakeOwn
import Derived.OwnWalk
import Derived.Below
import Derived.Deep.WholeRow
/- What package sysl's Value answers: a value's text, with a mark ahead of each of the three bytes. All memory that was there stays. Condition: the value has at most 2^46 bytes. -/
namespace Go.Proofs.YtmmghppjhmdikaaGreatDoor
open Go.ChangeShapes Go.WideShapes Go.ChangeAt Go.RowKit

theorem info5 : (Tryz.prog.info? 5).map (fun i => (i.zero, i.size, i.bytes)) = some (some (.int .u8 0), 1, 1) := by kernel_rfl
theorem info5_of : ∃ i, Tryz.prog.info? 5 = some i ∧ i.zero = some (.int .u8 0) ∧ i.size = 1 ∧ i.bytes = 1 := by
  have h := info5
  cases hi : Tryz.prog.info? 5 with
  | none => rw [hi] at h; cases h
  | some j => rw [hi] at h; simp only [Option.map_some, Option.some.injEq, Prod.mk.injEq] at h; exact ⟨j, rfl, h.1, h.2.1, h.2.2⟩
theorem make_row {P : Program} (t e : TypeId) (i : TypeInfo) (z : Value) (ht : P.underlying t = some (.slice e)) (hi : P.info? e = some i) (hz : i.zero = some z)
    (kl kc : IntKind) (n c : Nat) (hnc : n ≤ c) (hbytes : i.bytes * c ≤ 281474976710656) (h63 : c ≤ 9223372036854775807) (w : World) :
    (Instr.makeSlice t (.int kl (n : Int)) (.int kc (c : Int))).run P w = .ok (.slice (some ⟨w.heap.size, 0, none⟩) n c) (w.alloc (.cells (madeCells z.cells (c * i.size)) e)) := by
  have hb : (i.bytes : Int) * (c : Int) ≤ 281474976710656 := by
    have h : ((i.bytes * c : Nat) : Int) ≤ 281474976710656 := by omega
    rwa [Int.natCast_mul] at h
  have hr := run_make (P := P) w t e i z ht hi hz kl kc n c (by omega) (by omega) hb (by omega)
  simp only [Int.toNat_natCast] at hr
  exact hr
theorem cells_new (W : World) (cs : Array Value) (t : TypeId) : ∀ j u, cs.toList[j]? = some u → (W.alloc (.cells cs t)).cell? ((⟨W.heap.size, 0, none⟩ : Addr).add j) = some u := by
  intro j u hu
  have hadd : (⟨W.heap.size, 0, none⟩ : Addr).add j = ⟨W.heap.size, j, none⟩ := by unfold Addr.add; split <;> simp_all
  rw [hadd, cell_of_row _ _ _ cs t (0, 0) (heap_alloc_last W _), ← hu, Array.getElem?_toList]

/-- Bytes as cells. -/
def u8s (l : List UInt8) : List Value := l.map fun c => .int .u8 ((c.toNat : Nat) : Int)
theorem u8s_append (a b : List UInt8) : u8s (a ++ b) = u8s a ++ u8s b := by simp [u8s]
theorem u8s_length (l : List UInt8) : (u8s l).length = l.length := by simp [u8s]
theorem valueL_append (a b : List UInt8) : valueL (a ++ b) = valueL a ++ valueL b := by simp [valueL]
theorem valueL_length (l : List UInt8) : l.length ≤ (valueL l).length ∧ (valueL l).length ≤ 2 * l.length := by
  induction l with
  | nil => exact ⟨Nat.le_refl _, Nat.le_refl _⟩
  | cons c l ih =>
    have e : valueL (c :: l) = (if marked c = true then [92, c] else [c]) ++ valueL l := rfl
    rw [e, List.length_append, List.length_cons]
    split <;> simp <;> omega
theorem valueL_take (l : List UInt8) (k : Nat) (c : UInt8) (h : l[k]? = some c) : valueL (l.take (k + 1)) = valueL (l.take k) ++ (if marked c = true then [92, c] else [c]) := by
  obtain ⟨hk, hx⟩ := List.getElem?_eq_some_iff.1 h
  rw [List.take_succ_eq_append_getElem hk, valueL_append, hx]
  simp [valueL]
theorem text_of (l : List UInt8) : strOfNums (l.map fun c => ((c.toNat : Nat) : Int)) = bytes l := by
  apply ByteArray.ext
  apply Array.toList_inj.mp
  rw [strOfNums_data, List.map_map]
  show _ = l
  conv => rhs; rw [← List.map_id l]
  apply List.map_congr_left
  intro b _
  simp

theorem convert_row {W : World} {base : Nat} {v : Value} {l : List UInt8} (h : W.ownsRow base 5 1 v l.length (u8s l)) :
    (convert 65 9 v).run Tryz.prog W = .ok (.string (bytes l)) W := by
  obtain ⟨h1, ⟨rfl, h2⟩ | ⟨g, cap, cur, rfl, h3, h4, h5, h6, h7, h8⟩⟩ := h
  · have hl : l = [] := List.length_eq_zero_iff.1 h2
    subst hl
    exact run_convert_bytes_nil (w := W) 65 5 Tryz.underlying65 Tryz.underlying5 0 0 9 Tryz.underlying9
  · rw [← text_of]
    refine run_convert_bytes_arg W 65 5 Tryz.underlying65 Tryz.underlying5 g 0 l.length cap _ (by simp) (fun i hi => ?_) 9 Tryz.underlying9
    have hown : W.ownsRow base 5 1 (.slice (some ⟨g, 0, none⟩) l.length cap) l.length (u8s l) := ⟨h1, .inr ⟨g, cap, cur, rfl, h3, h4, h5, h6, h7, h8⟩⟩
    rw [Nat.zero_add, hown.cellAt i (by omega)]
    simp [u8s, List.getD, List.getElem?_eq_getElem hi]

end Go.Proofs.YtmmghppjhmdikaaGreatDoor
/- What package sysl takes off a value's text (function `value`): the value up to the " that ends it, and what is left. -/
namespace Go.Proofs.YtmmghppjhmdikaaGreatDoor
open Go.ChangeShapes Go.WideShapes Go.ChangeAt Go.RowKit

/-- A value's text, read up to the " that ends it: the value, and what is left. -/
def takeV : List UInt8 → Option (List UInt8 × List UInt8)
  | [] => none
  | [c] => if c = 34 then some ([], []) else none
  | c :: d :: r => if c = 34 then some ([], d :: r) else if c = 93 then none else
      if c = 92 ∧ marked d = true then (takeV r).map fun p => (d :: p.1, p.2)
      else (takeV (d :: r)).map fun p => (c :: p.1, p.2)
def ends3 (o : Option (List UInt8 × List UInt8)) : Ending := match o with
  | some p => .returned (.tuple #[.string (bytes p.1), .string (bytes p.2), .bool true])
  | none => .returned (.tuple #[.string ⟨#[]⟩, .string ⟨#[]⟩, .bool false])

theorem takeV_end (l : List UInt8) (k : Nat) (h : l.length ≤ k) : takeV (l.drop k) = none := by
  rw [List.drop_of_length_le h]; rfl
theorem takeV_quote (l : List UInt8) (k : Nat) (h : l[k]? = some 34) : takeV (l.drop k) = some ([], l.drop (k + 1)) := by
  obtain ⟨hk, hx⟩ := List.getElem?_eq_some_iff.1 h
  rw [List.drop_eq_getElem_cons hk, hx]
  cases l.drop (k + 1) <;> rfl
theorem takeV_square (l : List UInt8) (k : Nat) (h : l[k]? = some 93) : takeV (l.drop k) = none := by
  obtain ⟨hk, hx⟩ := List.getElem?_eq_some_iff.1 h
  rw [List.drop_eq_getElem_cons hk, hx]
  cases l.drop (k + 1) <;> rfl
theorem takeV_two (l : List UInt8) (k : Nat) (d : UInt8) (h : l[k]? = some 92) (h2 : l[k + 1]? = some d) (hd : marked d = true) : takeV (l.drop k) = (takeV (l.drop (k + 2))).map fun p => (d :: p.1, p.2) := by
  obtain ⟨hk, hx⟩ := List.getElem?_eq_some_iff.1 h
  obtain ⟨hk2, hx2⟩ := List.getElem?_eq_some_iff.1 h2
  rw [List.drop_eq_getElem_cons hk, hx, List.drop_eq_getElem_cons hk2, hx2, takeV, if_neg (by decide), if_neg (by decide), if_pos ⟨rfl, hd⟩]
theorem takeV_one (l : List UInt8) (k : Nat) (c : UInt8) (h : l[k]? = some c) (h1 : c ≠ 34) (h2 : c ≠ 93) (h3 : ∀ d, c = 92 → l[k + 1]? = some d → marked d = false) : takeV (l.drop k) = (takeV (l.drop (k + 1))).map fun p => (c :: p.1, p.2) := by
  obtain ⟨hk, hx⟩ := List.getElem?_eq_some_iff.1 h
  rw [List.drop_eq_getElem_cons hk, hx]
  cases hr : l.drop (k + 1) with
  | nil => show (if c = 34 then some ([], []) else none) = _; rw [if_neg h1]; rfl
  | cons d r =>
    have hd : l[k + 1]? = some d := by
      have := congrArg (fun x => x[0]?) hr
      simpa [List.getElem?_drop] using this
    rw [takeV, if_neg h1, if_neg h2, if_neg (fun h => by have := h3 d h.1 hd; rw [h.2] at this; cases this)]

theorem u8_eq {c : UInt8} {n : Nat} (hn : n < 256) (h : c.toNat = n) : c = n.toUInt8 := by
  apply UInt8.toNat_inj.1
  rw [h]
  simp
  omega
theorem drop_bytes (s : ByteArray) (k : Nat) : s.extract k s.size = bytes (s.data.toList.drop k) := by
  rw [Lib.extract_eq]
  have h := list_size s
  rw [List.take_of_length_le (by rw [List.length_drop]; omega)]
  rfl

set_option maxHeartbeats 4000000 in
set_option maxRecDepth 100000 in
theorem takes_any (s : ByteArray) (w : World) (hs : s.size ≤ 70368744177664) : Calls Tryz.prog 73 #[.string s] w fun e w' => e = ends3 (takeV s.data.toList) ∧ Below w.heap.size w w' := by
  obtain ⟨i0, hi, hz0, hz1, hz2⟩ := info5_of
  have HI := Lib.hid hi
  have HI0 := Lib.hid hz0
  have HI1 := Lib.hid hz1
  have HI2 := Lib.hid hz2
  have hln : s.data.toList.length = s.size := list_size s
  have HLN := Lib.hid hln
  clear hi hz0 hz1 hz2 hln
  go_enter Tryz.func73, Tryz.ntmps73
  go_wp2
  go_loopw [5, 6] (fun v i wr => ∃ (k : Nat) (pre : List UInt8), k ≤ s.size ∧ pre.length ≤ k ∧ i = .int .i64 k ∧ Hid (takeV s.data.toList = (takeV (s.data.toList.drop k)).map fun p => (pre ++ p.1, p.2)) ∧ Hid (wr.ownsRow w.heap.size 5 1 v pre.length (u8s pre)) ∧ Below w.heap.size w wr) (fun _ i _ => s.size - (intOf i).toNat)
  case atStart =>
    refine ⟨0, [], Nat.zero_le _, Nat.le_refl _, rfl, Lib.hid ?_, Lib.hid (World.ownsRow_nil _ _ _ _), Below.refl _ _⟩
    rw [List.drop_zero]
    cases takeV s.data.toList <;> rfl
  case round =>
    obtain ⟨k, pre, hk, hp, rfl, HT, hown, hB⟩ := hrel
    have hlow := hown.out.lt
    have HLOW := Lib.hid hlow
    have hsz := hB.size
    have HB := Lib.hid hB
    clear hlow
    by_cases hlt : k < s.size
    · obtain ⟨c, hc⟩ : ∃ c, s.data.toList[k]? = some c := ⟨s.data.toList[k]'(by rw [HLN.out]; exact hlt), List.getElem?_eq_getElem _⟩
      have hat : ((s[k]'hlt).toNat : Int) = ((c.toNat : Nat) : Int) := by
        obtain ⟨hk2, hx⟩ := List.getElem?_eq_some_iff.1 hc
        rw [← hx]
        simp only [Array.getElem_toList]
        rfl
      by_cases h34 : c = 34
      · subst h34
        have hconv := convert_row (W := wr.drew) (v := u5) (l := pre) (base := w.heap.size) hown.out
        have HQ := Lib.hid (takeV_quote _ _ hc)
        rw [show (((34 : UInt8).toNat : Nat) : Int) = 34 from rfl] at hat
        have hw : IntKind.i64.wrap ((k : Int) + 1) = ((k + 1 : Nat) : Int) := by rw [IntWalk.i64_in _ (by omega)]; omega
        clear hc
        go_wp2
        go_region
        go_wp2
        refine ⟨by simp, _, results_tmp3 rfl _ _ _, ?_, HB.out.drew⟩
        rw [HT.out, HQ.out]
        simp [ends3, drop_bytes]
      · have n34 : ¬ (((c.toNat : Nat) : Int) = 34) := fun h => h34 (u8_eq (n := 34) (by omega) (by omega))
        by_cases h93 : c = 93
        · subst h93
          have HQ := Lib.hid (takeV_square _ _ hc)
          rw [show (((93 : UInt8).toNat : Nat) : Int) = 93 from rfl] at hat
          clear hc n34 h34
          go_wp2
          refine ⟨by simp, _, results_tmp3 rfl _ _ _, ?_, HB.out⟩
          rw [HT.out, HQ.out]
          rfl
        · have n93 : ¬ (((c.toNat : Nat) : Int) = 93) := fun h => h93 (u8_eq (n := 93) (by omega) (by omega))
          have hw : IntKind.i64.wrap ((k : Int) + 1) = ((k + 1 : Nat) : Int) := by rw [IntWalk.i64_in _ (by omega)]; omega
          by_cases h92 : c = 92
          · subst h92
            rw [show (((92 : UInt8).toNat : Nat) : Int) = 92 from rfl] at hat
            clear n34 n93
            by_cases hl2 : k + 1 < s.size
            · obtain ⟨d, hd⟩ : ∃ d, s.data.toList[k + 1]? = some d := ⟨s.data.toList[k + 1]'(by rw [HLN.out]; exact hl2), List.getElem?_eq_getElem _⟩
              have hat2 : ((s[k + 1]'hl2).toNat : Int) = ((d.toNat : Nat) : Int) := by
                obtain ⟨hk2, hx⟩ := List.getElem?_eq_some_iff.1 hd
                rw [← hx]
                simp only [Array.getElem_toList]
                rfl
              by_cases hm : marked d = true
              · have HQ := Lib.hid (takeV_two _ _ _ hc hd hm)
                have HM := Lib.hid hm
                clear hc hd
                go_wp2_with (first | (at_builtin; refine wpList_append_own _ rfl _ _ 65 rfl w.heap.size 5 i0 (.int .u8 0) 1 1 Tryz.underlying65 HI.out HI0.out HI1.out HI2.out rfl (by decide) _ pre.length _ rfl (hown.out.alloc _) ⟨_, 0, none⟩ 1 1 [.int .u8 ((d.toNat : Nat) : Int)] rfl rfl (cells_new _ #[.int .u8 ((d.toNat : Nat) : Int)] 5) (by simp [Value.oneCell']) (by unfold maxLen; omega) (by omega) (by simp; omega) ?_; intro v1 w1 hown1 hgrow1 _) | (refine (marked_any d _).mono ?_; rintro e w' ⟨rfl, rfl⟩; rw [hm]))
                go_roundw
                case rel =>
                  refine ⟨k + 2, pre ++ [d], by omega, by simp; omega, by go_num, Lib.hid ?_, Lib.hid ?_, (HB.out.alloc hsz _).grown hgrow1 (by simp; omega) (fun g hg => (HLOW.out g hg).1)⟩
                  · rw [HT.out, HQ.out]
                    cases takeV (s.data.toList.drop (k + 2)) <;> simp
                  · simpa [u8s] using hown1
                case measure => simp [intOf]; omega
              · have hm' : marked d = false := by simpa using hm
                have HQ := Lib.hid (takeV_one _ _ _ hc (by decide) (by decide) (fun d' _ h' => by rw [hd] at h'; cases h'; exact hm'))
                clear hc hd hm
                go_wp2_with (first | (at_builtin; refine wpList_append_own _ rfl _ _ 65 rfl w.heap.size 5 i0 (.int .u8 0) 1 1 Tryz.underlying65 HI.out HI0.out HI1.out HI2.out rfl (by decide) _ pre.length _ rfl (hown.out.alloc _) ⟨_, 0, none⟩ 1 1 [.int .u8 92] rfl rfl (cells_new _ #[.int .u8 92] 5) (by simp [Value.oneCell']) (by unfold maxLen; omega) (by omega) (by simp; omega) ?_; intro v1 w1 hown1 hgrow1 _) | (refine (marked_any d _).mono ?_; rintro e w' ⟨rfl, rfl⟩; rw [hm']))
                go_roundw
                case rel =>
                  refine ⟨k + 1, pre ++ [92], by omega, by simp; omega, by go_num, Lib.hid ?_, Lib.hid ?_, (HB.out.alloc hsz _).grown hgrow1 (by simp; omega) (fun g hg => (HLOW.out g hg).1)⟩
                  · rw [HT.out, HQ.out]
                    cases takeV (s.data.toList.drop (k + 1)) <;> simp
                  · simpa [u8s] using hown1
                case measure => simp [intOf]; omega
            · have HQ := Lib.hid (takeV_one _ _ _ hc (by decide) (by decide) (fun d' _ h' => absurd (List.getElem?_eq_some_iff.1 h').1 (by rw [HLN.out]; exact hl2)))
              clear hc
              go_wp2_with (at_builtin; refine wpList_append_own _ rfl _ _ 65 rfl w.heap.size 5 i0 (.int .u8 0) 1 1 Tryz.underlying65 HI.out HI0.out HI1.out HI2.out rfl (by decide) _ pre.length _ rfl (hown.out.alloc _) ⟨_, 0, none⟩ 1 1 [.int .u8 92] rfl rfl (cells_new _ #[.int .u8 92] 5) (by simp [Value.oneCell']) (by unfold maxLen; omega) (by omega) (by simp; omega) ?_; intro v1 w1 hown1 hgrow1 _)
              go_roundw
              case rel =>
                refine ⟨k + 1, pre ++ [92], by omega, by simp; omega, by go_num, Lib.hid ?_, Lib.hid ?_, (HB.out.alloc hsz _).grown hgrow1 (by simp; omega) (fun g hg => (HLOW.out g hg).1)⟩
                · rw [HT.out, HQ.out]
                  cases takeV (s.data.toList.drop (k + 1)) <;> simp
                · simpa [u8s] using hown1
              case measure => simp [intOf]; omega
          · have HQ := Lib.hid (takeV_one _ _ _ hc h34 h93 (fun _ h => absurd h h92))
            have n92 : ¬ (((c.toNat : Nat) : Int) = 92) := fun h => h92 (u8_eq (n := 92) (by omega) (by omega))
            clear hc h34 h93 h92
            go_wp2_with ((at_builtin; refine wpList_append_own _ rfl _ _ 65 rfl w.heap.size 5 i0 (.int .u8 0) 1 1 Tryz.underlying65 HI.out HI0.out HI1.out HI2.out rfl (by decide) _ pre.length _ rfl (hown.out.alloc _) ⟨_, 0, none⟩ 1 1 [.int .u8 ((c.toNat : Nat) : Int)] rfl rfl (cells_new _ #[.int .u8 ((c.toNat : Nat) : Int)] 5) (by simp [Value.oneCell']) (by unfold maxLen; omega) (by omega) (by simp; omega) ?_; intro v1 w1 hown1 hgrow1 _))
            go_roundw
            case rel =>
              refine ⟨k + 1, pre ++ [c], by omega, by simp; omega, by go_num, Lib.hid ?_, Lib.hid ?_, (HB.out.alloc hsz _).grown hgrow1 (by simp; omega) (fun g hg => (HLOW.out g hg).1)⟩
              · rw [HT.out, HQ.out]
                cases takeV (s.data.toList.drop (k + 1)) <;> simp
              · simpa [u8s] using hown1
            case measure => simp [intOf]; omega
    · have HE := Lib.hid (takeV_end s.data.toList k (by rw [HLN.out]; omega))
      obtain rfl : k = s.size := by omega
      clear hk hlt hB hown
      go_wp2
      refine ⟨by simp, _, results_tmp3 rfl _ _ _, ?_, HB.out⟩
      rw [HT.out, HE.out]
      rfl
end Go.Proofs.YtmmghppjhmdikaaGreatDoor
/- What the document's own find answers: where the first of two bytes stands, from a place on; below 0: nowhere. -/
namespace Go.Proofs.YtmmghppjhmdikaaGreatDoor
open Go.ChangeShapes Go.WideShapes Go.ChangeAt Go.RowKit

def findL (l : List UInt8) (k : Nat) (a b : UInt8) : Int :=
  if (l.drop k).findIdx (fun c => c == a || c == b) < (l.drop k).length then ((k + (l.drop k).findIdx (fun c => c == a || c == b) : Nat) : Int) else -1
theorem findL_hit {l : List UInt8} {k : Nat} {a b c : UInt8} (h : l[k]? = some c) (hc : c = a ∨ c = b) : findL l k a b = k := by
  obtain ⟨hk, hx⟩ := List.getElem?_eq_some_iff.1 h
  have hp : (c == a || c == b) = true := by rcases hc with rfl | rfl <;> simp
  unfold findL
  rw [List.drop_eq_getElem_cons hk, hx, List.findIdx_cons, hp]
  simp
theorem findL_miss {l : List UInt8} {k : Nat} {a b c : UInt8} (h : l[k]? = some c) (h1 : c ≠ a) (h2 : c ≠ b) : findL l k a b = findL l (k + 1) a b := by
  obtain ⟨hk, hx⟩ := List.getElem?_eq_some_iff.1 h
  have hp : (c == a || c == b) = false := by simp [h1, h2]
  unfold findL
  rw [List.drop_eq_getElem_cons hk, hx, List.findIdx_cons, hp]
  simp only [cond_false, List.length_cons, Nat.add_lt_add_iff_right]
  split
  · congr 1; omega
  · rfl
theorem findL_end {l : List UInt8} {k : Nat} (a b : UInt8) (h : l.length ≤ k) : findL l k a b = -1 := by
  unfold findL
  rw [List.drop_of_length_le h]
  rfl

set_option maxHeartbeats 4000000 in
set_option maxRecDepth 100000 in
theorem find_any (s : ByteArray) (k0 : Nat) (a b : UInt8) (w : World) (hs : s.size ≤ 4611686018427387904) :
    Calls Tryz.prog 9 #[.string s, .int .i64 k0, .int .u8 ((a.toNat : Nat) : Int), .int .u8 ((b.toNat : Nat) : Int)] w fun e w' => e = .returned (.int .i64 (findL s.data.toList k0 a b)) ∧ w' = w := by
  have hln : s.data.toList.length = s.size := list_size s
  have HLN := Lib.hid hln
  clear hln
  go_enter Tryz.func9, Tryz.ntmps9
  go_wp2
  go_loop [9] (fun i => ∃ k : Nat, (k ≤ s.size ∨ k = k0) ∧ i = .int .i64 k ∧ Hid (findL s.data.toList k0 a b = findL s.data.toList k a b)) (fun i => s.size - (intOf i).toNat)
  case atStart => exact ⟨k0, .inr rfl, rfl, Lib.hid rfl⟩
  case round =>
    obtain ⟨k, hk, rfl, HK⟩ := hrel
    by_cases hlt : k < s.size
    · obtain ⟨c, hc⟩ : ∃ c, s.data.toList[k]? = some c := ⟨s.data.toList[k]'(by rw [HLN.out]; exact hlt), List.getElem?_eq_getElem _⟩
      have hat : ((s[k]'hlt).toNat : Int) = ((c.toNat : Nat) : Int) := by
        obtain ⟨hk2, hx⟩ := List.getElem?_eq_some_iff.1 hc
        rw [← hx]
        simp only [Array.getElem_toList]
        rfl
      have HC := Lib.hid hc
      clear hc
      have hne : ∀ x : UInt8, c ≠ x → (((c.toNat : Nat) : Int) == ((x.toNat : Nat) : Int)) = false := fun x h => beq_eq_false_iff_ne.2 fun h' => h (UInt8.toNat_inj.1 (by omega))
      by_cases h1 : c = a
      · have HQ := Lib.hid (findL_hit (b := b) HC.out (.inl h1))
        subst h1
        clear hk hne
        go_wp2
        go_ret
        exact ⟨by rw [HK.out, HQ.out]; rfl, rfl⟩
      · have q1 := hne a h1
        by_cases h2 : c = b
        · have HQ := Lib.hid (findL_hit (a := a) HC.out (.inr h2))
          subst h2
          clear hk hne h1
          go_wp2
          go_ret
          exact ⟨by rw [HK.out, HQ.out]; rfl, rfl⟩
        · have q2 := hne b h2
          have HQ := Lib.hid (findL_miss HC.out h1 h2)
          clear hk hne h1 h2
          go_wp2
          go_round
          case rel => exact ⟨k + 1, .inl (by omega), by go_num, Lib.hid (HK.out.trans HQ.out)⟩
          case measure => simp [intOf]; omega
    · have HQ := Lib.hid (findL_end a b (show s.data.toList.length ≤ k by rw [HLN.out]; omega))
      clear hk
      go_wp2
      go_ret
      exact ⟨by rw [HK.out, HQ.out]; rfl, rfl⟩
end Go.Proofs.YtmmghppjhmdikaaGreatDoor
/- Values and their texts, as lists: a value's text is parsed as the value; two values have one text just if they are the same; how much longer it is. -/
namespace Go.Proofs.YtmmghppjhmdikaaGreatDoor

theorem takeV_cons2 (c d : UInt8) (r : List UInt8) : takeV (c :: d :: r) = if c = 34 then some ([], d :: r) else if c = 93 then none else
      if c = 92 ∧ marked d = true then (takeV r).map fun p => (d :: p.1, p.2)
      else (takeV (d :: r)).map fun p => (c :: p.1, p.2) := by rw [takeV]
theorem marked_iff (c : UInt8) : marked c = true ↔ c = 34 ∨ c = 92 ∨ c = 93 := by
  unfold marked; simp [or_assoc]
theorem takeV_value (t : List UInt8) : ∀ a : List UInt8, takeV (valueL a ++ 34 :: t) = some (a, t)
  | [] => by
    show takeV (34 :: t) = _
    cases t <;> rfl
  | c :: a => by
    have ih := takeV_value t a
    have e : valueL (c :: a) = (if marked c = true then [92, c] else [c]) ++ valueL a := rfl
    rw [e]
    by_cases hm : marked c = true
    · rw [if_pos hm]
      show takeV (92 :: c :: (valueL a ++ 34 :: t)) = _
      rw [takeV_cons2, if_neg (by decide), if_neg (by decide), if_pos ⟨rfl, hm⟩, ih]
      rfl
    · rw [if_neg hm]
      have hn := fun h => hm ((marked_iff c).2 h)
      show takeV (c :: (valueL a ++ 34 :: t)) = _
      cases hr : valueL a ++ 34 :: t with
      | nil => exact absurd hr (by simp)
      | cons d r =>
        rw [takeV_cons2, if_neg (fun h => hn (.inl h)), if_neg (fun h => hn (.inr (.inr h))), if_neg (fun h => hn (.inr (.inl h.1))), ← hr, ih]
        rfl
theorem valueL_inj {a b : List UInt8} : valueL a = valueL b ↔ a = b := by
  refine ⟨fun h => ?_, fun h => by rw [h]⟩
  have ha := takeV_value [] a
  rw [h, takeV_value [] b] at ha
  exact (congrArg Prod.fst (Option.some.inj ha)).symm
theorem valueL_count : ∀ a : List UInt8, (valueL a).length = a.length + (a.filter marked).length
  | [] => rfl
  | c :: a => by
    have ih := valueL_count a
    have e : valueL (c :: a) = (if marked c = true then [92, c] else [c]) ++ valueL a := rfl
    rw [e, List.length_append, ih, List.filter_cons]
    split <;> simp <;> omega
end Go.Proofs.YtmmghppjhmdikaaGreatDoor
/- What the document's own value answers: a value's text, from a place on. -/
namespace Go.Proofs.YtmmghppjhmdikaaGreatDoor
open Go.ChangeShapes Go.WideShapes Go.ChangeAt Go.RowKit

def ends2 (n : Nat) (o : Option (List UInt8 × List UInt8)) : Ending := match o with
  | some p => .returned (.tuple #[.string (bytes p.1), .int .i64 ((n - p.2.length : Nat) : Int)])
  | none => .returned (.tuple #[.string ⟨#[]⟩, .int .i64 (-1)])

set_option maxHeartbeats 4000000 in
set_option maxRecDepth 100000 in
theorem refTakes_any (s : ByteArray) (k0 : Nat) (w : World) (hs : s.size ≤ 35184372088832) (hk0 : k0 ≤ s.size) : Calls Tryz.prog 23 #[.string s, .int .i64 k0] w fun e w' => e = ends2 s.size (takeV (s.data.toList.drop k0)) ∧ Below w.heap.size w w' := by
  obtain ⟨i0, hi, hz0, hz1, hz2⟩ := info5_of
  have HI := Lib.hid hi
  have HI0 := Lib.hid hz0
  have HI1 := Lib.hid hz1
  have HI2 := Lib.hid hz2
  have hln : s.data.toList.length = s.size := list_size s
  have HLN := Lib.hid hln
  clear hi hz0 hz1 hz2 hln
  go_enter Tryz.func23, Tryz.ntmps23
  go_wp2
  go_loopw [1, 6] (fun i v wr => ∃ (k : Nat) (pre : List UInt8), k ≤ s.size ∧ pre.length ≤ k ∧ i = .int .i64 k ∧ Hid (takeV (s.data.toList.drop k0) = (takeV (s.data.toList.drop k)).map fun p => (pre ++ p.1, p.2)) ∧ Hid (wr.ownsRow w.heap.size 5 1 v pre.length (u8s pre)) ∧ Below w.heap.size w wr) (fun i _ _ => s.size - (intOf i).toNat)
  case atStart =>
    refine ⟨k0, [], hk0, Nat.zero_le _, rfl, Lib.hid ?_, Lib.hid (World.ownsRow_nil _ _ _ _), Below.refl _ _⟩
    cases takeV (s.data.toList.drop k0) <;> rfl
  case round =>
    obtain ⟨k, pre, hk, hp, rfl, HT, hown, hB⟩ := hrel
    have hlow := hown.out.lt
    have HLOW := Lib.hid hlow
    have hsz := hB.size
    have HB := Lib.hid hB
    clear hlow
    by_cases hlt : k < s.size
    · obtain ⟨c, hc⟩ : ∃ c, s.data.toList[k]? = some c := ⟨s.data.toList[k]'(by rw [HLN.out]; exact hlt), List.getElem?_eq_getElem _⟩
      have hat : ((s[k]'hlt).toNat : Int) = ((c.toNat : Nat) : Int) := by
        obtain ⟨hk2, hx⟩ := List.getElem?_eq_some_iff.1 hc
        rw [← hx]
        simp only [Array.getElem_toList]
        rfl
      by_cases h34 : c = 34
      · subst h34
        have hconv := convert_row (W := wr) (v := u6) (l := pre) (base := w.heap.size) hown.out
        have HQ := Lib.hid (takeV_quote _ _ hc)
        rw [show (((34 : UInt8).toNat : Nat) : Int) = 34 from rfl] at hat
        have hw : IntKind.i64.wrap ((k : Int) + 1) = ((k + 1 : Nat) : Int) := by rw [IntWalk.i64_in _ (by omega)]; omega
        clear hc
        go_wp2
        refine ⟨by simp, _, results_tmp2 rfl _ _ _, ?_, HB.out⟩
        rw [HT.out, HQ.out]
        have e : s.size - (s.data.toList.drop (k + 1)).length = k + 1 := by rw [List.length_drop, HLN.out]; omega
        simp only [ends2, Option.map_some, List.append_nil, e]
        rfl
      · have n34 : ¬ (((c.toNat : Nat) : Int) = 34) := fun h => h34 (u8_eq (n := 34) (by omega) (by omega))
        by_cases h93 : c = 93
        · subst h93
          have HQ := Lib.hid (takeV_square _ _ hc)
          rw [show (((93 : UInt8).toNat : Nat) : Int) = 93 from rfl] at hat
          clear hc n34 h34
          go_wp2
          refine ⟨by simp, _, results_tmp2 rfl _ _ _, ?_, HB.out⟩
          rw [HT.out, HQ.out]
          rfl
        · have n93 : ¬ (((c.toNat : Nat) : Int) = 93) := fun h => h93 (u8_eq (n := 93) (by omega) (by omega))
          have hw : IntKind.i64.wrap ((k : Int) + 1) = ((k + 1 : Nat) : Int) := by rw [IntWalk.i64_in _ (by omega)]; omega
          by_cases h92 : c = 92
          · subst h92
            rw [show (((92 : UInt8).toNat : Nat) : Int) = 92 from rfl] at hat
            clear n34 n93
            by_cases hl2 : k + 1 < s.size
            · obtain ⟨d, hd⟩ : ∃ d, s.data.toList[k + 1]? = some d := ⟨s.data.toList[k + 1]'(by rw [HLN.out]; exact hl2), List.getElem?_eq_getElem _⟩
              have hat2 : ((s[k + 1]'hl2).toNat : Int) = ((d.toNat : Nat) : Int) := by
                obtain ⟨hk2, hx⟩ := List.getElem?_eq_some_iff.1 hd
                rw [← hx]
                simp only [Array.getElem_toList]
                rfl
              by_cases hm : marked d = true
              · have HQ := Lib.hid (takeV_two _ _ _ hc hd hm)
                rcases (marked_iff d).1 hm with hq | hq | hq
                · subst hq
                  rw [show (((34 : UInt8).toNat : Nat) : Int) = 34 from rfl] at hat2
                  clear hc hd hm
                  go_wp2_with (at_builtin; refine wpList_append_own _ rfl _ _ 65 rfl w.heap.size 5 i0 (.int .u8 0) 1 1 Tryz.underlying65 HI.out HI0.out HI1.out HI2.out rfl (by decide) _ pre.length _ rfl (hown.out.alloc _) ⟨_, 0, none⟩ 1 1 [.int .u8 34] rfl rfl (cells_new _ #[.int .u8 34] 5) (by simp [Value.oneCell']) (by unfold maxLen; omega) (by omega) (by simp; omega) ?_; intro v1 w1 hown1 hgrow1 _)
                  go_roundw
                  case rel =>
                    refine ⟨k + 2, pre ++ [34], by omega, by simp; omega, by go_num, Lib.hid ?_, Lib.hid ?_, (HB.out.alloc hsz _).grown hgrow1 (by simp; omega) (fun g hg => (HLOW.out g hg).1)⟩
                    · rw [HT.out, HQ.out]
                      cases takeV (s.data.toList.drop (k + 2)) <;> simp
                    · simpa [u8s] using hown1
                  case measure => simp [intOf]; omega
                · subst hq
                  rw [show (((92 : UInt8).toNat : Nat) : Int) = 92 from rfl] at hat2
                  clear hc hd hm
                  go_wp2_with (at_builtin; refine wpList_append_own _ rfl _ _ 65 rfl w.heap.size 5 i0 (.int .u8 0) 1 1 Tryz.underlying65 HI.out HI0.out HI1.out HI2.out rfl (by decide) _ pre.length _ rfl (hown.out.alloc _) ⟨_, 0, none⟩ 1 1 [.int .u8 92] rfl rfl (cells_new _ #[.int .u8 92] 5) (by simp [Value.oneCell']) (by unfold maxLen; omega) (by omega) (by simp; omega) ?_; intro v1 w1 hown1 hgrow1 _)
                  go_roundw
                  case rel =>
                    refine ⟨k + 2, pre ++ [92], by omega, by simp; omega, by go_num, Lib.hid ?_, Lib.hid ?_, (HB.out.alloc hsz _).grown hgrow1 (by simp; omega) (fun g hg => (HLOW.out g hg).1)⟩
                    · rw [HT.out, HQ.out]
                      cases takeV (s.data.toList.drop (k + 2)) <;> simp
                    · simpa [u8s] using hown1
                  case measure => simp [intOf]; omega
                · subst hq
                  rw [show (((93 : UInt8).toNat : Nat) : Int) = 93 from rfl] at hat2
                  clear hc hd hm
                  go_wp2_with (at_builtin; refine wpList_append_own _ rfl _ _ 65 rfl w.heap.size 5 i0 (.int .u8 0) 1 1 Tryz.underlying65 HI.out HI0.out HI1.out HI2.out rfl (by decide) _ pre.length _ rfl (hown.out.alloc _) ⟨_, 0, none⟩ 1 1 [.int .u8 93] rfl rfl (cells_new _ #[.int .u8 93] 5) (by simp [Value.oneCell']) (by unfold maxLen; omega) (by omega) (by simp; omega) ?_; intro v1 w1 hown1 hgrow1 _)
                  go_roundw
                  case rel =>
                    refine ⟨k + 2, pre ++ [93], by omega, by simp; omega, by go_num, Lib.hid ?_, Lib.hid ?_, (HB.out.alloc hsz _).grown hgrow1 (by simp; omega) (fun g hg => (HLOW.out g hg).1)⟩
                    · rw [HT.out, HQ.out]
                      cases takeV (s.data.toList.drop (k + 2)) <;> simp
                    · simpa [u8s] using hown1
                  case measure => simp [intOf]; omega
              · have hm' : marked d = false := by simpa using hm
                have hno := fun h => hm ((marked_iff d).2 h)
                have HQ := Lib.hid (takeV_one _ _ _ hc (by decide) (by decide) (fun d' _ h' => by rw [hd] at h'; cases h'; exact hm'))
                have q34 : (((d.toNat : Nat) : Int) == 34) = false := beq_eq_false_iff_ne.2 fun h => hno (.inl (u8_eq (n := 34) (by omega) (by omega)))
                have q92 : (((d.toNat : Nat) : Int) == 92) = false := beq_eq_false_iff_ne.2 fun h => hno (.inr (.inl (u8_eq (n := 92) (by omega) (by omega))))
                have q93 : (((d.toNat : Nat) : Int) == 93) = false := beq_eq_false_iff_ne.2 fun h => hno (.inr (.inr (u8_eq (n := 93) (by omega) (by omega))))
                clear hc hd hm hno hm'
                go_wp2_with (at_builtin; refine wpList_append_own _ rfl _ _ 65 rfl w.heap.size 5 i0 (.int .u8 0) 1 1 Tryz.underlying65 HI.out HI0.out HI1.out HI2.out rfl (by decide) _ pre.length _ rfl (hown.out.alloc _) ⟨_, 0, none⟩ 1 1 [.int .u8 92] rfl rfl (cells_new _ #[.int .u8 92] 5) (by simp [Value.oneCell']) (by unfold maxLen; omega) (by omega) (by simp; omega) ?_; intro v1 w1 hown1 hgrow1 _)
                go_roundw
                case rel =>
                  refine ⟨k + 1, pre ++ [92], by omega, by simp; omega, by go_num, Lib.hid ?_, Lib.hid ?_, (HB.out.alloc hsz _).grown hgrow1 (by simp; omega) (fun g hg => (HLOW.out g hg).1)⟩
                  · rw [HT.out, HQ.out]
                    cases takeV (s.data.toList.drop (k + 1)) <;> simp
                  · simpa [u8s] using hown1
                case measure => simp [intOf]; omega
            · have HQ := Lib.hid (takeV_one _ _ _ hc (by decide) (by decide) (fun d' _ h' => absurd (List.getElem?_eq_some_iff.1 h').1 (by rw [HLN.out]; exact hl2)))
              clear hc
              go_wp2_with (at_builtin; refine wpList_append_own _ rfl _ _ 65 rfl w.heap.size 5 i0 (.int .u8 0) 1 1 Tryz.underlying65 HI.out HI0.out HI1.out HI2.out rfl (by decide) _ pre.length _ rfl (hown.out.alloc _) ⟨_, 0, none⟩ 1 1 [.int .u8 92] rfl rfl (cells_new _ #[.int .u8 92] 5) (by simp [Value.oneCell']) (by unfold maxLen; omega) (by omega) (by simp; omega) ?_; intro v1 w1 hown1 hgrow1 _)
              go_roundw
              case rel =>
                refine ⟨k + 1, pre ++ [92], by omega, by simp; omega, by go_num, Lib.hid ?_, Lib.hid ?_, (HB.out.alloc hsz _).grown hgrow1 (by simp; omega) (fun g hg => (HLOW.out g hg).1)⟩
                · rw [HT.out, HQ.out]
                  cases takeV (s.data.toList.drop (k + 1)) <;> simp
                · simpa [u8s] using hown1
              case measure => simp [intOf]; omega
          · have HQ := Lib.hid (takeV_one _ _ _ hc h34 h93 (fun _ h => absurd h h92))
            have q92 : (((c.toNat : Nat) : Int) == 92) = false := beq_eq_false_iff_ne.2 fun h => h92 (u8_eq (n := 92) (by omega) (by omega))
            have n92 : ¬ (((c.toNat : Nat) : Int) = 92) := fun h => h92 (u8_eq (n := 92) (by omega) (by omega))
            clear hc h34 h93 h92
            go_wp2_with ((at_builtin; refine wpList_append_own _ rfl _ _ 65 rfl w.heap.size 5 i0 (.int .u8 0) 1 1 Tryz.underlying65 HI.out HI0.out HI1.out HI2.out rfl (by decide) _ pre.length _ rfl (hown.out.alloc _) ⟨_, 0, none⟩ 1 1 [.int .u8 ((c.toNat : Nat) : Int)] rfl rfl (cells_new _ #[.int .u8 ((c.toNat : Nat) : Int)] 5) (by simp [Value.oneCell']) (by unfold maxLen; omega) (by omega) (by simp; omega) ?_; intro v1 w1 hown1 hgrow1 _))
            go_roundw
            case rel =>
              refine ⟨k + 1, pre ++ [c], by omega, by simp; omega, by go_num, Lib.hid ?_, Lib.hid ?_, (HB.out.alloc hsz _).grown hgrow1 (by simp; omega) (fun g hg => (HLOW.out g hg).1)⟩
              · rw [HT.out, HQ.out]
                cases takeV (s.data.toList.drop (k + 1)) <;> simp
              · simpa [u8s] using hown1
            case measure => simp [intOf]; omega
    · have HE := Lib.hid (takeV_end s.data.toList k (by rw [HLN.out]; omega))
      obtain rfl : k = s.size := by omega
      clear hk hlt hB hown
      go_wp2
      refine ⟨by simp, _, results_tmp2 rfl _ _ _, ?_, HB.out⟩
      rw [HT.out, HE.out]
      rfl
end Go.Proofs.YtmmghppjhmdikaaGreatDoor
/- What the document's own begins answers. Conditions: sizes. -/
namespace Go.Proofs.YtmmghppjhmdikaaGreatDoor
open Go.ChangeShapes Go.WideShapes Go.ChangeAt Go.RowKit

theorem byte_ext2 {s t : ByteArray} (h : s.data.toList = t.data.toList) : s = t := by rw [← bytes_self s, ← bytes_self t, h]
theorem prefix_take (l t : List UInt8) : Lib.hasPrefix l t = decide (l.take t.length = t) := by
  rw [Bool.eq_iff_iff, decide_eq_true_iff]
  unfold Lib.hasPrefix
  rw [List.isPrefixOf_iff_prefix]
  constructor
  · rintro ⟨r, rfl⟩
    rw [List.take_left']
    rfl
  · intro h
    exact ⟨l.drop t.length, by conv => lhs; lhs; rw [← h]
                               exact List.take_append_drop _ _⟩
set_option maxHeartbeats 1000000 in
set_option maxRecDepth 100000 in
theorem begins_any (s t : ByteArray) (p : Nat) (w : World) (hs : s.size ≤ 4611686018427387904) (h1 : 1 ≤ t.size) (ht : t.size ≤ 1024) (hp : p ≤ 4611686018427387904) :
    Calls Tryz.prog 10 #[.string s, .int .i64 p, .string t] w fun e w' => e = .returned (.bool (Lib.hasPrefix (s.data.toList.drop p) t.data.toList)) ∧ w' = w := by
  have hl := list_size s
  have hl2 := list_size t
  by_cases h : p + t.size ≤ s.size
  · have hq : ((s.extract p (p + t.size)).toList == t.toList) = Lib.hasPrefix (s.data.toList.drop p) t.data.toList := by
      rw [eq_text, prefix_take, hl2]
      refine decide_eq_decide.2 ?_
      have e : (s.extract p (p + t.size)).data.toList = (s.data.toList.drop p).take t.size := by
        rw [Lib.extract_eq]
        show List.take (p + t.size - p) (List.drop p s.data.toList) = _
        rw [show p + t.size - p = t.size by omega]
      constructor
      · intro hh; rw [← e, hh]
      · intro hh; exact byte_ext2 (by rw [e, hh])
    obtain ⟨R, hR⟩ : ∃ R, Lib.hasPrefix (s.data.toList.drop p) t.data.toList = R := ⟨_, rfl⟩
    rw [hR] at hq ⊢
    obtain ⟨m, hm⟩ : ∃ m, p + t.size = m := ⟨_, rfl⟩
    have hpm : ((p : Nat) : Int) + ((t.size : Nat) : Int) = ((m : Nat) : Int) := by omega
    have hpm2 : p ≤ m := by omega
    rw [hm] at hq h
    clear hR hl hl2
    cases R <;>
    · go_enter Tryz.func10, Tryz.ntmps10
      go_wp2
      go_ret
      exact ⟨rfl, rfl⟩
  · have hR : Lib.hasPrefix (s.data.toList.drop p) t.data.toList = false := by
      rw [prefix_take]
      refine decide_eq_false fun hh => ?_
      have := congrArg List.length hh
      rw [List.length_take, List.length_drop] at this
      omega
    rw [hR]
    clear hR hl hl2
    go_enter Tryz.func10, Tryz.ntmps10
    go_wp2
    go_ret
    exact ⟨rfl, rfl⟩
theorem begins_none (s t : ByteArray) (w : World) : Calls Tryz.prog 10 #[.string s, .int .i64 (-1), .string t] w fun e w' => e = .returned (.bool false) ∧ w' = w := by
  go_enter Tryz.func10, Tryz.ntmps10
  go_wp2
  go_ret
  exact ⟨rfl, rfl⟩
end Go.Proofs.YtmmghppjhmdikaaGreatDoor
