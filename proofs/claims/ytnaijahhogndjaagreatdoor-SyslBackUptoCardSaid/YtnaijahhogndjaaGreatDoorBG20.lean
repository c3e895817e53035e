/- What package sysl takes off a value's text (function `value`): the value up to the " that ends it, and what is left. -/
import Derived.Test.YtnaijahhogndjaaGreatDoorBG19
namespace Go.Proofs.YtnaijahhogndjaaGreatDoor
open Go.ChangeShapes Go.WideShapes Go.ChangeAt Go.RowKit

/-- A value's text, read up to the " that ends it: the value, and what is left. -/
def takeV : List UInt8 → Option (List UInt8 × List UInt8)
  | [] => none
  | [c] => if c = 34 then some ([], []) else none
  | c :: d :: r => if c = 34 then some ([], d :: r) else if c = 93 then none else
      if c = 92 ∧ marked d = true then (takeV r).map fun p => (d :: p.1, p.2)
      else (takeV (d :: r)).map fun p => (c :: p.1, p.2)
def ends3 (o : Option (List UInt8 × List UInt8)) : Ending := match o with
  | some p => .returned (.tuple #[.string (bytes p.1), .string (bytes p.2), .bool true])
  | none => .returned (.tuple #[.string ⟨#[]⟩, .string ⟨#[]⟩, .bool false])

theorem takeV_end (l : List UInt8) (k : Nat) (h : l.length ≤ k) : takeV (l.drop k) = none := by
  rw [List.drop_of_length_le h]; rfl
theorem takeV_quote (l : List UInt8) (k : Nat) (h : l[k]? = some 34) : takeV (l.drop k) = some ([], l.drop (k + 1)) := by
  obtain ⟨hk, hx⟩ := List.getElem?_eq_some_iff.1 h
  rw [List.drop_eq_getElem_cons hk, hx]
  cases l.drop (k + 1) <;> rfl
theorem takeV_square (l : List UInt8) (k : Nat) (h : l[k]? = some 93) : takeV (l.drop k) = none := by
  obtain ⟨hk, hx⟩ := List.getElem?_eq_some_iff.1 h
  rw [List.drop_eq_getElem_cons hk, hx]
  cases l.drop (k + 1) <;> rfl
theorem takeV_two (l : List UInt8) (k : Nat) (d : UInt8) (h : l[k]? = some 92) (h2 : l[k + 1]? = some d) (hd : marked d = true) : takeV (l.drop k) = (takeV (l.drop (k + 2))).map fun p => (d :: p.1, p.2) := by
  obtain ⟨hk, hx⟩ := List.getElem?_eq_some_iff.1 h
  obtain ⟨hk2, hx2⟩ := List.getElem?_eq_some_iff.1 h2
  rw [List.drop_eq_getElem_cons hk, hx, List.drop_eq_getElem_cons hk2, hx2, takeV, if_neg (by decide), if_neg (by decide), if_pos ⟨rfl, hd⟩]
theorem takeV_one (l : List UInt8) (k : Nat) (c : UInt8) (h : l[k]? = some c) (h1 : c ≠ 34) (h2 : c ≠ 93) (h3 : ∀ d, c = 92 → l[k + 1]? = some d → marked d = false) : takeV (l.drop k) = (takeV (l.drop (k + 1))).map fun p => (c :: p.1, p.2) := by
  obtain ⟨hk, hx⟩ := List.getElem?_eq_some_iff.1 h
  rw [List.drop_eq_getElem_cons hk, hx]
  cases hr : l.drop (k + 1) with
  | nil => show (if c = 34 then some ([], []) else none) = _; rw [if_neg h1]; rfl
  | cons d r =>
    have hd : l[k + 1]? = some d := by
      have := congrArg (fun x => x[0]?) hr
      simpa [List.getElem?_drop] using this
    rw [takeV, if_neg h1, if_neg h2, if_neg (fun h => by have := h3 d h.1 hd; rw [h.2] at this; cases this)]

theorem u8_eq {c : UInt8} {n : Nat} (hn : n < 256) (h : c.toNat = n) : c = n.toUInt8 := by
  apply UInt8.toNat_inj.1
  rw [h]
  simp
  omega
theorem drop_bytes (s : ByteArray) (k : Nat) : s.extract k s.size = bytes (s.data.toList.drop k) := by
  rw [Lib.extract_eq]
  have h := list_size s
  rw [List.take_of_length_le (by rw [List.length_drop]; omega)]
  rfl

set_option maxHeartbeats 4000000 in
set_option maxRecDepth 100000 in
theorem takes_any (s : ByteArray) (w : World) (hs : s.size ≤ 70368744177664) : Calls Tryz.prog 120 #[.string s] w fun e w' => e = ends3 (takeV s.data.toList) ∧ Below w.heap.size w w' := by
  obtain ⟨i0, hi, hz0, hz1, hz2⟩ := info5_of
  have HI := Lib.hid hi
  have HI0 := Lib.hid hz0
  have HI1 := Lib.hid hz1
  have HI2 := Lib.hid hz2
  have hln : s.data.toList.length = s.size := list_size s
  have HLN := Lib.hid hln
  clear hi hz0 hz1 hz2 hln
  go_enter Tryz.func120, Tryz.ntmps120
  go_wp2
  go_loopw [5, 6] (fun v i wr => ∃ (k : Nat) (pre : List UInt8), k ≤ s.size ∧ pre.length ≤ k ∧ i = .int .i64 k ∧ Hid (takeV s.data.toList = (takeV (s.data.toList.drop k)).map fun p => (pre ++ p.1, p.2)) ∧ Hid (wr.ownsRow w.heap.size 5 1 v pre.length (u8s pre)) ∧ Below w.heap.size w wr) (fun _ i _ => s.size - (intOf i).toNat)
  case atStart =>
    refine ⟨0, [], Nat.zero_le _, Nat.le_refl _, rfl, Lib.hid ?_, Lib.hid (World.ownsRow_nil _ _ _ _), Below.refl _ _⟩
    rw [List.drop_zero]
    cases takeV s.data.toList <;> rfl
  case round =>
    obtain ⟨k, pre, hk, hp, rfl, HT, hown, hB⟩ := hrel
    have hlow := hown.out.lt
    have HLOW := Lib.hid hlow
    have hsz := hB.size
    have HB := Lib.hid hB
    clear hlow
    by_cases hlt : k < s.size
    · obtain ⟨c, hc⟩ : ∃ c, s.data.toList[k]? = some c := ⟨s.data.toList[k]'(by rw [HLN.out]; exact hlt), List.getElem?_eq_getElem _⟩
      have hat : ((s[k]'hlt).toNat : Int) = ((c.toNat : Nat) : Int) := by
        obtain ⟨hk2, hx⟩ := List.getElem?_eq_some_iff.1 hc
        rw [← hx]
        simp only [Array.getElem_toList]
        rfl
      by_cases h34 : c = 34
      · subst h34
        have hconv := convert_row (W := wr.drew) (v := u5) (l := pre) (base := w.heap.size) hown.out
        have HQ := Lib.hid (takeV_quote _ _ hc)
        rw [show (((34 : UInt8).toNat : Nat) : Int) = 34 from rfl] at hat
        have hw : IntKind.i64.wrap ((k : Int) + 1) = ((k + 1 : Nat) : Int) := by rw [IntWalk.i64_in _ (by omega)]; omega
        clear hc
        go_wp2
        go_region
        go_wp2
        refine ⟨by simp, _, results_tmp3 rfl _ _ _, ?_, HB.out.drew⟩
        rw [HT.out, HQ.out]
        simp [ends3, drop_bytes]
      · have n34 : ¬ (((c.toNat : Nat) : Int) = 34) := fun h => h34 (u8_eq (n := 34) (by omega) (by omega))
        by_cases h93 : c = 93
        · subst h93
          have HQ := Lib.hid (takeV_square _ _ hc)
          rw [show (((93 : UInt8).toNat : Nat) : Int) = 93 from rfl] at hat
          clear hc n34 h34
          go_wp2
          refine ⟨by simp, _, results_tmp3 rfl _ _ _, ?_, HB.out⟩
          rw [HT.out, HQ.out]
          rfl
        · have n93 : ¬ (((c.toNat : Nat) : Int) = 93) := fun h => h93 (u8_eq (n := 93) (by omega) (by omega))
          have hw : IntKind.i64.wrap ((k : Int) + 1) = ((k + 1 : Nat) : Int) := by rw [IntWalk.i64_in _ (by omega)]; omega
          by_cases h92 : c = 92
          · subst h92
            rw [show (((92 : UInt8).toNat : Nat) : Int) = 92 from rfl] at hat
            clear n34 n93
            by_cases hl2 : k + 1 < s.size
            · obtain ⟨d, hd⟩ : ∃ d, s.data.toList[k + 1]? = some d := ⟨s.data.toList[k + 1]'(by rw [HLN.out]; exact hl2), List.getElem?_eq_getElem _⟩
              have hat2 : ((s[k + 1]'hl2).toNat : Int) = ((d.toNat : Nat) : Int) := by
                obtain ⟨hk2, hx⟩ := List.getElem?_eq_some_iff.1 hd
                rw [← hx]
                simp only [Array.getElem_toList]
                rfl
              by_cases hm : marked d = true
              · have HQ := Lib.hid (takeV_two _ _ _ hc hd hm)
                have HM := Lib.hid hm
                clear hc hd
                go_wp2_with (first | (at_builtin; refine wpList_append_own _ rfl _ _ 47 rfl w.heap.size 5 i0 (.int .u8 0) 1 1 Tryz.underlying47 HI.out HI0.out HI1.out HI2.out rfl (by decide) _ pre.length _ rfl (hown.out.alloc _) ⟨_, 0, none⟩ 1 1 [.int .u8 ((d.toNat : Nat) : Int)] rfl rfl (cells_new _ #[.int .u8 ((d.toNat : Nat) : Int)] 5) (by simp [Value.oneCell']) (by unfold maxLen; omega) (by omega) (by simp; omega) ?_; intro v1 w1 hown1 hgrow1 _) | (refine (marked_any d _).mono ?_; rintro e w' ⟨rfl, rfl⟩; rw [hm]))
                go_roundw
                case rel =>
                  refine ⟨k + 2, pre ++ [d], by omega, by simp; omega, by go_num, Lib.hid ?_, Lib.hid ?_, (HB.out.alloc hsz _).grown hgrow1 (by simp; omega) (fun g hg => (HLOW.out g hg).1)⟩
                  · rw [HT.out, HQ.out]
                    cases takeV (s.data.toList.drop (k + 2)) <;> simp
                  · simpa [u8s] using hown1
                case measure => simp [intOf]; omega
              · have hm' : marked d = false := by simpa using hm
                have HQ := Lib.hid (takeV_one _ _ _ hc (by decide) (by decide) (fun d' _ h' => by rw [hd] at h'; cases h'; exact hm'))
                clear hc hd hm
                go_wp2_with (first | (at_builtin; refine wpList_append_own _ rfl _ _ 47 rfl w.heap.size 5 i0 (.int .u8 0) 1 1 Tryz.underlying47 HI.out HI0.out HI1.out HI2.out rfl (by decide) _ pre.length _ rfl (hown.out.alloc _) ⟨_, 0, none⟩ 1 1 [.int .u8 92] rfl rfl (cells_new _ #[.int .u8 92] 5) (by simp [Value.oneCell']) (by unfold maxLen; omega) (by omega) (by simp; omega) ?_; intro v1 w1 hown1 hgrow1 _) | (refine (marked_any d _).mono ?_; rintro e w' ⟨rfl, rfl⟩; rw [hm']))
                go_roundw
                case rel =>
                  refine ⟨k + 1, pre ++ [92], by omega, by simp; omega, by go_num, Lib.hid ?_, Lib.hid ?_, (HB.out.alloc hsz _).grown hgrow1 (by simp; omega) (fun g hg => (HLOW.out g hg).1)⟩
                  · rw [HT.out, HQ.out]
                    cases takeV (s.data.toList.drop (k + 1)) <;> simp
                  · simpa [u8s] using hown1
                case measure => simp [intOf]; omega
            · have HQ := Lib.hid (takeV_one _ _ _ hc (by decide) (by decide) (fun d' _ h' => absurd (List.getElem?_eq_some_iff.1 h').1 (by rw [HLN.out]; exact hl2)))
              clear hc
              go_wp2_with (at_builtin; refine wpList_append_own _ rfl _ _ 47 rfl w.heap.size 5 i0 (.int .u8 0) 1 1 Tryz.underlying47 HI.out HI0.out HI1.out HI2.out rfl (by decide) _ pre.length _ rfl (hown.out.alloc _) ⟨_, 0, none⟩ 1 1 [.int .u8 92] rfl rfl (cells_new _ #[.int .u8 92] 5) (by simp [Value.oneCell']) (by unfold maxLen; omega) (by omega) (by simp; omega) ?_; intro v1 w1 hown1 hgrow1 _)
              go_roundw
              case rel =>
                refine ⟨k + 1, pre ++ [92], by omega, by simp; omega, by go_num, Lib.hid ?_, Lib.hid ?_, (HB.out.alloc hsz _).grown hgrow1 (by simp; omega) (fun g hg => (HLOW.out g hg).1)⟩
                · rw [HT.out, HQ.out]
                  cases takeV (s.data.toList.drop (k + 1)) <;> simp
                · simpa [u8s] using hown1
              case measure => simp [intOf]; omega
          · have HQ := Lib.hid (takeV_one _ _ _ hc h34 h93 (fun _ h => absurd h h92))
            have n92 : ¬ (((c.toNat : Nat) : Int) = 92) := fun h => h92 (u8_eq (n := 92) (by omega) (by omega))
            clear hc h34 h93 h92
            go_wp2_with ((at_builtin; refine wpList_append_own _ rfl _ _ 47 rfl w.heap.size 5 i0 (.int .u8 0) 1 1 Tryz.underlying47 HI.out HI0.out HI1.out HI2.out rfl (by decide) _ pre.length _ rfl (hown.out.alloc _) ⟨_, 0, none⟩ 1 1 [.int .u8 ((c.toNat : Nat) : Int)] rfl rfl (cells_new _ #[.int .u8 ((c.toNat : Nat) : Int)] 5) (by simp [Value.oneCell']) (by unfold maxLen; omega) (by omega) (by simp; omega) ?_; intro v1 w1 hown1 hgrow1 _))
            go_roundw
            case rel =>
              refine ⟨k + 1, pre ++ [c], by omega, by simp; omega, by go_num, Lib.hid ?_, Lib.hid ?_, (HB.out.alloc hsz _).grown hgrow1 (by simp; omega) (fun g hg => (HLOW.out g hg).1)⟩
              · rw [HT.out, HQ.out]
                cases takeV (s.data.toList.drop (k + 1)) <;> simp
              · simpa [u8s] using hown1
            case measure => simp [intOf]; omega
    · have HE := Lib.hid (takeV_end s.data.toList k (by rw [HLN.out]; omega))
      obtain rfl : k = s.size := by omega
      clear hk hlt hB hown
      go_wp2
      refine ⟨by simp, _, results_tmp3 rfl _ _ _, ?_, HB.out⟩
      rw [HT.out, HE.out]
      rfl
end Go.Proofs.YtnaijahhogndjaaGreatDoor
