/- The texts RefValue, RefPrintLists, one behind the other. -/
import Derived.Test.YtnaijahhogndjaaGreatDoorT12
import Derived.Test.YtnaijahhogndjaaGreatDoorT16
/- What the document's own Value answers: a value's text. -/
namespace Go.Proofs.YtnaijahhogndjaaGreatDoor
open Go.ChangeShapes Go.WideShapes Go.ChangeAt Go.RowKit

set_option maxHeartbeats 4000000 in
set_option maxRecDepth 100000 in
theorem refValue_any (s : ByteArray) (w : World) (hs : s.size ≤ 35184372088832) : Calls Tryz.prog 18 #[.string s] w fun e w' => e = .returned (.string (bytes (valueL s.data.toList))) ∧ Below w.heap.size w w' := by
  obtain ⟨i0, hi, hz0, hz1, hz2⟩ := info5_of
  have HI := Lib.hid hi
  have HI0 := Lib.hid hz0
  have HI1 := Lib.hid hz1
  have HI2 := Lib.hid hz2
  have hln : s.data.toList.length = s.size := list_size s
  have HLN := Lib.hid hln
  clear hi hz0 hz1 hz2 hln
  go_enter Tryz.func18, Tryz.ntmps18
  go_wp2
  go_loopw [3, 4] (fun v i wr => ∃ k : Nat, k ≤ s.size ∧ i = .int .i64 k ∧ Hid (wr.ownsRow w.heap.size 5 1 v (valueL (s.data.toList.take k)).length (u8s (valueL (s.data.toList.take k)))) ∧ Below w.heap.size w wr) (fun _ i _ => s.size - (intOf i).toNat)
  case atStart => exact ⟨0, Nat.zero_le _, rfl, Lib.hid (by simpa [u8s, valueL] using World.ownsRow_nil w w.heap.size 5 1), Below.refl _ _⟩
  case round =>
    obtain ⟨k, hk, rfl, hown, hB⟩ := hrel
    by_cases hlt : k < s.size
    · obtain ⟨c, hc⟩ : ∃ c, s.data.toList[k]? = some c := ⟨s.data.toList[k]'(by rw [HLN.out]; exact hlt), List.getElem?_eq_getElem _⟩
      have hat : ((s[k]'hlt).toNat : Int) = ((c.toNat : Nat) : Int) := by
        obtain ⟨hk2, hx⟩ := List.getElem?_eq_some_iff.1 hc
        rw [← hx]
        simp only [Array.getElem_toList]
        rfl
      have hvt := valueL_take _ _ _ hc
      have hv1 := (valueL_length (s.data.toList.take k)).2
      have hv2 : (s.data.toList.take k).length ≤ k := List.length_take_le _ _
      have HVT := Lib.hid hvt
      have hlow := hown.out.lt
      have HLOW := Lib.hid hlow
      have hsz := hB.size
      clear hc hvt hlow
      generalize valueL (s.data.toList.take k) = L at *
      by_cases hm : marked c = true
      · have HM := Lib.hid hm
        rcases (marked_iff c).1 hm with hq | hq | hq
        · subst hq
          rw [show (((34 : UInt8).toNat : Nat) : Int) = 34 from rfl] at hat
          clear hm
          go_wp2_with (first
            | (at_builtin; refine wpList_append_own _ rfl _ _ 47 rfl w.heap.size 5 i0 (.int .u8 0) 1 1 Tryz.underlying47 HI.out HI0.out HI1.out HI2.out rfl (by decide) _ L.length _ rfl (hown.out.alloc _) ⟨_, 0, none⟩ 1 1 [.int .u8 92] rfl rfl (cells_new _ #[.int .u8 92] 5) (by simp [Value.oneCell']) (by unfold maxLen; omega) (by omega) (by simp; omega) ?_; intro v1 w1 hown1 hgrow1 _)
            | (at_builtin; refine wpList_append_own _ rfl _ _ 47 rfl w.heap.size 5 i0 (.int .u8 0) 1 1 Tryz.underlying47 HI.out HI0.out HI1.out HI2.out rfl (by decide) _ (L.length + 1) _ rfl (hown1.alloc _) ⟨_, 0, none⟩ 1 1 [.int .u8 34] rfl rfl (cells_new _ #[.int .u8 34] 5) (by simp [Value.oneCell']) (by unfold maxLen; omega) (by omega) (by have := hgrow1.size; simp at this ⊢; omega) ?_; intro v2 w2 hown2 hgrow2 _))
          go_roundw
          case rel =>
            have B1 : Below w.heap.size w w1 := (hB.alloc hsz _).grown hgrow1 (by simp; omega) (fun g hg => (HLOW.out g hg).1)
            refine ⟨k + 1, by omega, by go_num, Lib.hid ?_, (B1.alloc B1.size _).grown hgrow2 (by have := B1.size; simp; omega) (fun g hg => (hown1.lt g hg).1)⟩
            rw [HVT.out, if_pos HM.out]
            simpa [u8s, List.append_assoc] using hown2
          case measure => simp [intOf]; omega
        · subst hq
          rw [show (((92 : UInt8).toNat : Nat) : Int) = 92 from rfl] at hat
          clear hm
          go_wp2_with (first
            | (at_builtin; refine wpList_append_own _ rfl _ _ 47 rfl w.heap.size 5 i0 (.int .u8 0) 1 1 Tryz.underlying47 HI.out HI0.out HI1.out HI2.out rfl (by decide) _ L.length _ rfl (hown.out.alloc _) ⟨_, 0, none⟩ 1 1 [.int .u8 92] rfl rfl (cells_new _ #[.int .u8 92] 5) (by simp [Value.oneCell']) (by unfold maxLen; omega) (by omega) (by simp; omega) ?_; intro v1 w1 hown1 hgrow1 _)
            | (at_builtin; refine wpList_append_own _ rfl _ _ 47 rfl w.heap.size 5 i0 (.int .u8 0) 1 1 Tryz.underlying47 HI.out HI0.out HI1.out HI2.out rfl (by decide) _ (L.length + 1) _ rfl (hown1.alloc _) ⟨_, 0, none⟩ 1 1 [.int .u8 92] rfl rfl (cells_new _ #[.int .u8 92] 5) (by simp [Value.oneCell']) (by unfold maxLen; omega) (by omega) (by have := hgrow1.size; simp at this ⊢; omega) ?_; intro v2 w2 hown2 hgrow2 _))
          go_roundw
          case rel =>
            have B1 : Below w.heap.size w w1 := (hB.alloc hsz _).grown hgrow1 (by simp; omega) (fun g hg => (HLOW.out g hg).1)
            refine ⟨k + 1, by omega, by go_num, Lib.hid ?_, (B1.alloc B1.size _).grown hgrow2 (by have := B1.size; simp; omega) (fun g hg => (hown1.lt g hg).1)⟩
            rw [HVT.out, if_pos HM.out]
            simpa [u8s, List.append_assoc] using hown2
          case measure => simp [intOf]; omega
        · subst hq
          rw [show (((93 : UInt8).toNat : Nat) : Int) = 93 from rfl] at hat
          clear hm
          go_wp2_with (first
            | (at_builtin; refine wpList_append_own _ rfl _ _ 47 rfl w.heap.size 5 i0 (.int .u8 0) 1 1 Tryz.underlying47 HI.out HI0.out HI1.out HI2.out rfl (by decide) _ L.length _ rfl (hown.out.alloc _) ⟨_, 0, none⟩ 1 1 [.int .u8 92] rfl rfl (cells_new _ #[.int .u8 92] 5) (by simp [Value.oneCell']) (by unfold maxLen; omega) (by omega) (by simp; omega) ?_; intro v1 w1 hown1 hgrow1 _)
            | (at_builtin; refine wpList_append_own _ rfl _ _ 47 rfl w.heap.size 5 i0 (.int .u8 0) 1 1 Tryz.underlying47 HI.out HI0.out HI1.out HI2.out rfl (by decide) _ (L.length + 1) _ rfl (hown1.alloc _) ⟨_, 0, none⟩ 1 1 [.int .u8 93] rfl rfl (cells_new _ #[.int .u8 93] 5) (by simp [Value.oneCell']) (by unfold maxLen; omega) (by omega) (by have := hgrow1.size; simp at this ⊢; omega) ?_; intro v2 w2 hown2 hgrow2 _))
          go_roundw
          case rel =>
            have B1 : Below w.heap.size w w1 := (hB.alloc hsz _).grown hgrow1 (by simp; omega) (fun g hg => (HLOW.out g hg).1)
            refine ⟨k + 1, by omega, by go_num, Lib.hid ?_, (B1.alloc B1.size _).grown hgrow2 (by have := B1.size; simp; omega) (fun g hg => (hown1.lt g hg).1)⟩
            rw [HVT.out, if_pos HM.out]
            simpa [u8s, List.append_assoc] using hown2
          case measure => simp [intOf]; omega
      · have HM := Lib.hid (show marked c = false by simpa using hm)
        have hno := fun h => hm ((marked_iff c).2 h)
        have n34 : ¬ (((c.toNat : Nat) : Int) = 34) := fun h => hno (.inl (u8_eq (n := 34) (by omega) (by omega)))
        have n92 : ¬ (((c.toNat : Nat) : Int) = 92) := fun h => hno (.inr (.inl (u8_eq (n := 92) (by omega) (by omega))))
        have n93 : ¬ (((c.toNat : Nat) : Int) = 93) := fun h => hno (.inr (.inr (u8_eq (n := 93) (by omega) (by omega))))
        have q34 := beq_eq_false_iff_ne.2 n34
        have q92 := beq_eq_false_iff_ne.2 n92
        have q93 := beq_eq_false_iff_ne.2 n93
        clear hm hno n34 n92 n93
        go_wp2_with (at_builtin; refine wpList_append_own _ rfl _ _ 47 rfl w.heap.size 5 i0 (.int .u8 0) 1 1 Tryz.underlying47 HI.out HI0.out HI1.out HI2.out rfl (by decide) _ L.length _ rfl (hown.out.alloc _) ⟨_, 0, none⟩ 1 1 [.int .u8 ((c.toNat : Nat) : Int)] rfl rfl (cells_new _ #[.int .u8 ((c.toNat : Nat) : Int)] 5) (by simp [Value.oneCell']) (by unfold maxLen; omega) (by omega) (by simp; omega) ?_; intro v1 w1 hown1 hgrow1 _)
        go_roundw
        case rel =>
          refine ⟨k + 1, by omega, by go_num, Lib.hid ?_, (hB.alloc hsz _).grown hgrow1 (by simp; omega) (fun g hg => (HLOW.out g hg).1)⟩
          rw [HVT.out, HM.out, if_neg Bool.false_ne_true]
          simpa [u8s] using hown1
        case measure => simp [intOf]; omega
    · obtain rfl : k = s.size := by omega
      have htk : s.data.toList.take s.size = s.data.toList := List.take_of_length_le (by rw [HLN.out]; exact Nat.le_refl _)
      rw [htk] at hown
      have hconv := convert_row hown.out
      have HB := Lib.hid hB
      clear htk hown hB hk hlt HLN HI HI0 HI1 HI2
      obtain ⟨R, hR⟩ : ∃ R, bytes (valueL s.data.toList) = R := ⟨_, rfl⟩
      have HR := Lib.hid hR
      rw [hR] at hconv
      clear hR
      go_wp2
      exact ⟨by simp, _, results_tmp rfl _ _ _, by rw [HR.out]; rfl, HB.out⟩
end Go.Proofs.YtnaijahhogndjaaGreatDoor
/- What the document's own Print lays, as lists; its parameters' region. -/
namespace Go.Proofs.YtnaijahhogndjaaGreatDoor
open Go.ChangeShapes Go.WideShapes Go.ChangeAt Go.RowKit

/-- A right event's text up to its elements. -/
def headT (g f : Int) (T : List UInt8) (ho ap pr id : ByteArray) : List UInt8 :=
  60 :: (Lib.decDigits (8 * f + g).toNat ++ 62 :: 49 :: 32 :: (T ++ 32 :: ((orB ho).data.toList ++ 32 :: ((orB ap).data.toList ++ 32 :: ((orB pr).data.toList ++ 32 :: ((orB id).data.toList ++ [32]))))))
theorem printT_head (g f : Int) (T : List UInt8) (ho ap pr id : ByteArray) (da : List Elm) (tx : ByteArray) :
    printT g f T ho ap pr id da tx = headT g f T ho ap pr id ++ ((if da = [] then [45] else elmsT da) ++ behindT tx.data.toList) := by
  unfold printT headT
  simp [flatL, bytes]
theorem b_app (a b : List UInt8) : bytes a ++ bytes b = bytes (a ++ b) := Cal.bytes_append a b
theorem b_app' (a : List UInt8) (s : ByteArray) : bytes a ++ s = bytes (a ++ s.data.toList) := by
  conv => lhs; rw [← bytes_self s]
  exact b_app _ _
theorem b_lit (l : List UInt8) : (⟨l.toArray⟩ : ByteArray) = bytes l := rfl
theorem head_is {g f : Int} {T : List UInt8} {ho ap pr id D A O1 O2 O3 O4 : ByteArray} (hD : bytes (Lib.decDigits (8 * f + g).toNat) = D) (hA : bytes T = A) (h1 : orB ho = O1) (h2 : orB ap = O2) (h3 : orB pr = O3) (h4 : orB id = O4) :
    (⟨#[60]⟩ : ByteArray) ++ D ++ ⟨#[62, 49, 32]⟩ ++ A ++ ⟨#[32]⟩ ++ O1 ++ ⟨#[32]⟩ ++ O2 ++ ⟨#[32]⟩ ++ O3 ++ ⟨#[32]⟩ ++ O4 ++ ⟨#[32]⟩ = bytes (headT g f T ho ap pr id) := by
  rw [← hD, ← hA, ← h1, ← h2, ← h3, ← h4, show (⟨#[60]⟩ : ByteArray) = bytes [60] from rfl, show (⟨#[62, 49, 32]⟩ : ByteArray) = bytes [62, 49, 32] from rfl, show (⟨#[32]⟩ : ByteArray) = bytes [32] from rfl]
  simp only [b_app']
  congr 1
  unfold headT
  simp [bytes_list]
theorem prm_is {L v : List UInt8} {n S V : ByteArray} (hS : bytes L = S) (hV : bytes v = V) :
    S ++ ⟨#[32]⟩ ++ n ++ ⟨#[61]⟩ ++ ⟨#[34]⟩ ++ V ++ ⟨#[34]⟩ = bytes (L ++ 32 :: (n.data.toList ++ 61 :: 34 :: (v ++ [34]))) := by
  rw [← hS, ← hV, show (⟨#[32]⟩ : ByteArray) = bytes [32] from rfl, show (⟨#[61]⟩ : ByteArray) = bytes [61] from rfl, show (⟨#[34]⟩ : ByteArray) = bytes [34] from rfl]
  simp only [b_app']
  congr 1
  simp [bytes_list]
theorem elm_is {L : List UInt8} {n S : ByteArray} (hS : bytes L = S) : S ++ ⟨#[91]⟩ ++ n = bytes (L ++ 91 :: n.data.toList) := by
  rw [← hS, show (⟨#[91]⟩ : ByteArray) = bytes [91] from rfl]
  simp only [b_app']
  congr 1
  simp [bytes_list]
theorem one_is {L : List UInt8} {c : UInt8} {S : ByteArray} (hS : bytes L = S) : S ++ ⟨#[c]⟩ = bytes (L ++ [c]) := by
  rw [← hS, show (⟨#[c]⟩ : ByteArray) = bytes [c] from rfl, b_app]
theorem text_is {L : List UInt8} {tx S : ByteArray} (hS : bytes L = S) (h : 0 < tx.size) : S ++ ⟨#[32, 239, 187, 191]⟩ ++ tx = bytes (L ++ behindT tx.data.toList) := by
  have hl : tx.data.toList ≠ [] := fun hn => by have := list_size tx; rw [hn] at this; simp at this; omega
  rw [← hS, show (⟨#[32, 239, 187, 191]⟩ : ByteArray) = bytes [32, 239, 187, 191] from rfl]
  simp only [b_app']
  congr 1
  unfold behindT
  rw [if_neg hl]
  simp [bytes_list]
theorem text_no {tx : ByteArray} (h : tx.size = 0) : behindT tx.data.toList = [] := by
  have hl : tx.data.toList = [] := List.eq_nil_of_length_eq_zero (by rw [list_size]; exact h)
  unfold behindT
  rw [if_pos hl]
theorem prmsT_take {ps : List Prm} {k : Nat} {p : Prm} (h : ps[k]? = some p) : prmsT (ps.take (k + 1)) = prmsT (ps.take k) ++ prmT p := by
  obtain ⟨hk, hx⟩ := List.getElem?_eq_some_iff.1 h
  rw [List.take_succ_eq_append_getElem hk, hx]; simp [prmsT]
theorem elmsT_take {es : List Elm} {k : Nat} {e : Elm} (h : es[k]? = some e) : elmsT (es.take (k + 1)) = elmsT (es.take k) ++ elmT e := by
  obtain ⟨hk, hx⟩ := List.getElem?_eq_some_iff.1 h
  rw [List.take_succ_eq_append_getElem hk, hx]; simp [elmsT]
theorem elmsT_part {es : List Elm} {k : Nat} {e : Elm} (h : es[k]? = some e) : (elmsT (es.take k)).length + (elmT e).length ≤ (elmsT es).length := by
  have e1 : elmsT es = elmsT (es.take (k + 1)) ++ elmsT (es.drop (k + 1)) := by
    unfold elmsT; rw [← List.flatMap_append, List.take_append_drop]
  rw [e1, elmsT_take h, List.length_append, List.length_append]
  omega
theorem prmsT_part {ps : List Prm} {k : Nat} {p : Prm} (h : ps[k]? = some p) : (prmsT (ps.take k)).length + (prmT p).length ≤ (prmsT ps).length := by
  have e1 : prmsT ps = prmsT (ps.take (k + 1)) ++ prmsT (ps.drop (k + 1)) := by
    unfold prmsT; rw [← List.flatMap_append, List.take_append_drop]
  rw [e1, prmsT_take h, List.length_append, List.length_append]
  omega
theorem quote_string (W : World) (b : Nat) (h : W.cell? ⟨b, 0, none⟩ = some (.int .u8 34)) : (convert 47 9 (.slice (some ⟨b, 0, none⟩) 1 1)).run Tryz.prog W = .ok (.string ⟨#[34]⟩) W := by
  have e : (⟨#[34]⟩ : ByteArray) = strOfNums ([34].map fun c : UInt8 => ((c.toNat : Nat) : Int)) := (text_of [34]).symm
  rw [e]
  refine run_convert_bytes_arg W 47 5 Tryz.underlying47 Tryz.underlying5 b 0 1 1 _ (by simp) (fun i hi => ?_) 9 Tryz.underlying9
  obtain rfl : i = 0 := by omega
  exact h
abbrev QAt (b : Nat) (W : World) : Prop := W.cell? ⟨b, 0, none⟩ = some (.int .u8 34) ∧ b < W.heap.size
theorem q_next {W W' : World} {b : Nat} (h : QAt b W) (hb : Below W.heap.size W W') : QAt b W' := ⟨((bcell hb).1 _ _ h.2).trans h.1, Nat.lt_of_lt_of_le h.2 hb.size⟩
theorem q_new (W : World) (t : TypeId) (b : Nat) (h : b = W.heap.size) : QAt b (W.alloc (.cells #[.int .u8 34] t)) := by
  subst h
  exact ⟨by simp [go_sem], by simp⟩
/-- What a parameter's region reads. -/
abbrev Lev (w0 : World) (b : Nat) (g f : Int) (ho ap pr id tx : ByteArray) (dv : Value) (b1 q1 b2 q2 : Nat) (v1 : Value) (s1 s2 : ByteArray) (W : World) : Prop :=
  Pev w0 b g f ho ap pr id tx dv W ∧ W.cell? ⟨b1, q1, none⟩ = some v1 ∧ W.cell? ⟨b2, q2, none⟩ = some (.string s1) ∧ W.cell? ⟨b2, q2 + 1, none⟩ = some (.string s2)
theorem lev_next {w0 W W' : World} {b : Nat} {g f : Int} {ho ap pr id tx : ByteArray} {dv : Value} {b1 q1 b2 q2 : Nat} {v1 : Value} {s1 s2 : ByteArray} (h1 : b1 < w0.heap.size) (h2 : b2 < w0.heap.size) (h : Lev w0 b g f ho ap pr id tx dv b1 q1 b2 q2 v1 s1 s2 W) (hb : Below W.heap.size W W') : Lev w0 b g f ho ap pr id tx dv b1 q1 b2 q2 v1 s1 s2 W' := by
  obtain ⟨hp, k1, k2, k3⟩ := h
  have hz : w0.heap.size ≤ W.heap.size := hp.2.2.2.2.2.2.2.2.2.size
  have hc := (bcell hb).1
  exact ⟨pev_next hp hb, (hc _ _ (Nat.lt_of_lt_of_le h1 hz)).trans k1, (hc _ _ (Nat.lt_of_lt_of_le h2 hz)).trans k2, (hc _ _ (Nat.lt_of_lt_of_le h2 hz)).trans k3⟩
/-- What holds may be strengthened on the way through a drawn region. -/
theorem wpAnyH_strong {P : Program} {md : Region.Mode} {ops : Array Oper} {Q : Exit → Act → World → Prop} {S S' : World → Prop} (h : ∀ w, S' w → S w) :
    ∀ (fuel : Nat) (listed : Array Bool) (a : Act) (w : World), wpAnyH P md ops Q S' fuel listed a w → wpAnyH P md ops Q S fuel listed a w
  | 0, _, _, _, h' => h'
  | fuel + 1, _, _, _, h' => ⟨h'.1, fun i hi => wpOp_mono (fun a' w' hh => ⟨h w' hh.1, wpAnyH_strong h fuel _ a' w' hh.2⟩) (h'.2 i hi)⟩
end Go.Proofs.YtnaijahhogndjaaGreatDoor
