/- The texts RefPrintD, RefPrint, PSame, PSameNe, one behind the other. -/
import Derived.Test.YtnaijahhogndjaaGreatDoorT17
import Derived.Test.YtnaijahhogndjaaGreatDoorT19
import Derived.Test.YtnaijahhogndjaaGreatDoorT18
import Derived.Test.YtnaijahhogndjaaGreatDoorT20
import Derived.Test.YtnaijahhogndjaaGreatDoorT8
/- What the document's own Print answers of a right event: its time told, without elements. -/
namespace Go.Proofs.YtnaijahhogndjaaGreatDoor
open Go.ChangeShapes Go.WideShapes Go.ChangeAt Go.RowKit

set_option maxHeartbeats 32000000 in
set_option maxRecDepth 100000 in
theorem refPrint_t_none (g f a : Int) (ho ap pr id tx : ByteArray) (la : Option Addr) (lc : Nat) (w : World) (g1 : 0 ≤ g) (g2 : g ≤ 7) (f1 : 0 ≤ f) (f2 : f ≤ 23)
    (hR : ∀ W, Below w.heap.size w W → Calls Tryz.prog 16 #[.agg #[.int .i64 g, .int .i64 f, .bool true, .int .i64 a, .string ho, .string ap, .string pr, .string id, .slice la 0 lc, .string tx]] W fun r w' => r = .returned (.int .i64 0) ∧ Below W.heap.size W w') 
    (z1 : ho.size ≤ 1048576) (z2 : ap.size ≤ 1048576) (z3 : pr.size ≤ 1048576) (z4 : id.size ≤ 1048576) (z5 : tx.size ≤ 70368744177664) :
    Calls Tryz.prog 12 #[.agg #[.int .i64 g, .int .i64 f, .bool true, .int .i64 a, .string ho, .string ap, .string pr, .string id, .slice la 0 lc, .string tx]] w fun r w' => (∃ T, TimeIs true a T ∧ r = .returned (.tuple #[.string (bytes (headT g f T ho ap pr id ++ 45 :: behindT tx.data.toList)), .int .i64 0])) ∧ Below w.heap.size w w' := by
  obtain ⟨D, hD⟩ : ∃ D, bytes (Lib.decDigits (8 * f + g).toNat) = D := ⟨_, rfl⟩
  obtain ⟨O1, o1⟩ : ∃ O, orB ho = O := ⟨_, rfl⟩
  obtain ⟨O2, o2⟩ : ∃ O, orB ap = O := ⟨_, rfl⟩
  obtain ⟨O3, o3⟩ : ∃ O, orB pr = O := ⟨_, rfl⟩
  obtain ⟨O4, o4⟩ : ∃ O, orB id = O := ⟨_, rfl⟩
  have s0 : D.size ≤ 3 := by rw [← hD, bytes_size]; exact dec_len _ (by omega)
  have s1 : O1.size ≤ 1048577 := by rw [← o1]; have := orB_size ho; omega
  have s2 : O2.size ≤ 1048577 := by rw [← o2]; have := orB_size ap; omega
  have s3 : O3.size ≤ 1048577 := by rw [← o3]; have := orB_size pr; omega
  have s4 : O4.size ≤ 1048577 := by rw [← o4]; have := orB_size id; omega
  have HD := Lib.hid hD
  have HW := Lib.hid (show IntKind.i64.wrap (IntKind.i64.wrap (8 * f) + g) = 8 * f + g by rw [wrap_in (x := 8 * f) (by omega) (by omega), wrap_in (by omega) (by omega)])
  have H1 := Lib.hid o1
  have H2 := Lib.hid o2
  have H3 := Lib.hid o3
  have H4 := Lib.hid o4
  have HR := Lib.hid hR
  have hS0 : Pev w w.heap.size g f ho ap pr id tx (.slice la 0 lc) (w.alloc (.cells #[.int .i64 g, .int .i64 f, .bool true, .int .i64 a, .string ho, .string ap, .string pr, .string id, .slice la 0 lc, .string tx] 24)) :=
    ⟨by simp [go_sem], by simp [go_sem], by simp [go_sem], by simp [go_sem], by simp [go_sem], by simp [go_sem], by simp [go_sem], by simp [go_sem], by simp, (Below.refl _ _).alloc (Nat.le_refl _) _⟩
  have c2 : ((w.alloc (.cells #[.int .i64 g, .int .i64 f, .bool true, .int .i64 a, .string ho, .string ap, .string pr, .string id, .slice la 0 lc, .string tx] 24))).cell? ⟨w.heap.size, 2, none⟩ = some (.bool true) := by simp [go_sem]
  have c3 : ((w.alloc (.cells #[.int .i64 g, .int .i64 f, .bool true, .int .i64 a, .string ho, .string ap, .string pr, .string id, .slice la 0 lc, .string tx] 24))).cell? ⟨w.heap.size, 3, none⟩ = some (.int .i64 a) := by simp [go_sem]
  have HS0 := Lib.hid hS0
  have HC2 := Lib.hid c2
  have HC3 := Lib.hid c3
  clear hD o1 o2 o3 o4 hR hS0 c2 c3
  go_enter Tryz.func12, Tryz.ntmps12
  go_wp2_with fail
  refine (HR.out _ HS0.out.2.2.2.2.2.2.2.2.2).mono ?_
  rintro r w2 ⟨rfl, hb2⟩
  have HS2 := Lib.hid (pev_next HS0.out hb2)
  have d2 : w2.cell? ⟨w.heap.size, 2, none⟩ = some (.bool true) := ((bcell hb2).1 _ _ HS0.out.2.2.2.2.2.2.2.2.1).trans HC2.out
  have d3 : w2.cell? ⟨w.heap.size, 3, none⟩ = some (.int .i64 a) := ((bcell hb2).1 _ _ HS0.out.2.2.2.2.2.2.2.2.1).trans HC3.out
  clear hb2
  go_wp2_with fail
  refine (Cal.rdate_any a _).mono ?_
  rintro r w3 ⟨y, mo, d, h, mi, s, k, rfl, hDI, hb3⟩
  have HS3 := Lib.hid (pev_next HS2.out hb3)
  obtain ⟨A, hA⟩ : ∃ A, bytes (Cal.dateText y mo d h mi s k 0) = A := ⟨_, rfl⟩
  have hT : TimeIs true a (Cal.dateText y mo d h mi s k 0) := .inr ⟨rfl, y, mo, d, h, mi, s, k, hDI, rfl⟩
  have sA : A.size ≤ 64 := by rw [← hA, bytes_size]; exact time_len hT
  have HTX := Lib.hid (fun W => show Calls Tryz.prog 32 #[.agg #[.int .i64 y, .int .i64 mo, .int .i64 d, .int .i64 h, .int .i64 mi, .int .i64 s, .int .i64 k, .int .i64 0]] W fun e w' => e = .returned (.tuple #[.string A, .int .i64 0]) ∧ Below W.heap.size W w' by rw [← hA]; exact Cal.rtext_yes y mo d h mi s k 0 W hDI.1)
  obtain ⟨T, hTT⟩ : ∃ T, Cal.dateText y mo d h mi s k 0 = T := ⟨_, rfl⟩
  rw [hTT] at hT hA
  have HT := Lib.hid hT
  have HA := Lib.hid hA
  clear hb3 hDI hT hA hTT d2 d3
  go_wp2_with fail
  refine (HTX.out _).mono ?_
  rintro r w4 ⟨rfl, hb4⟩
  have HS4 := Lib.hid (pev_next HS3.out hb4)
  clear hb4 HTX HS3
  go_wp2_with fail
  have q0 : ¬ 9223372036854775807 < 1 + D.size := by omega
  have q1 : ¬ 9223372036854775807 < 1 + D.size + 3 := by omega
  have q2 : ¬ 9223372036854775807 < 1 + D.size + 3 + A.size := by omega
  have q3 : ¬ 9223372036854775807 < 1 + D.size + 3 + A.size + 1 := by omega
  have q4 : ¬ 9223372036854775807 < 1 + D.size + 3 + A.size + 1 + O1.size := by omega
  have q5 : ¬ 9223372036854775807 < 1 + D.size + 3 + A.size + 1 + O1.size + 1 := by omega
  have q6 : ¬ 9223372036854775807 < 1 + D.size + 3 + A.size + 1 + O1.size + 1 + O2.size := by omega
  have q7 : ¬ 9223372036854775807 < 1 + D.size + 3 + A.size + 1 + O1.size + 1 + O2.size + 1 := by omega
  have q8 : ¬ 9223372036854775807 < 1 + D.size + 3 + A.size + 1 + O1.size + 1 + O2.size + 1 + O3.size := by omega
  have q9 : ¬ 9223372036854775807 < 1 + D.size + 3 + A.size + 1 + O1.size + 1 + O2.size + 1 + O3.size + 1 := by omega
  have q10 : ¬ 9223372036854775807 < 1 + D.size + 3 + A.size + 1 + O1.size + 1 + O2.size + 1 + O3.size + 1 + O4.size := by omega
  have q11 : ¬ 9223372036854775807 < 1 + D.size + 3 + A.size + 1 + O1.size + 1 + O2.size + 1 + O3.size + 1 + O4.size + 1 := by omega
  go_region_held3 (fun w' => Pev w w.heap.size g f ho ap pr id tx (.slice la 0 lc) w')
    (first
      | assumption
      | exact pev_next (by assumption) (by assumption)
      | exact pev_drew HS4.out 1
      | exact HS4.out)
    (first
      | (go_at_call 34; (with_reducible refine (dec_e HW.out HD.out (by omega) (by omega)).mono ?_); rintro e w' ⟨rfl, hbx⟩)
      | (go_at_call 35; (with_reducible refine (or_t (s := ho) H1.out).mono ?_); rintro e w' ⟨rfl, rfl⟩)
      | (go_at_call 35; (with_reducible refine (or_t (s := ap) H2.out).mono ?_); rintro e w' ⟨rfl, rfl⟩)
      | (go_at_call 35; (with_reducible refine (or_t (s := pr) H3.out).mono ?_); rintro e w' ⟨rfl, rfl⟩)
      | (go_at_call 35; (with_reducible refine (or_t (s := id) H4.out).mono ?_); rintro e w' ⟨rfl, rfl⟩))
  have hhd := head_is (g := g) (f := f) HD.out HA.out H1.out H2.out H3.out H4.out
  rename World => w5
  have P5 : Pev w w.heap.size g f ho ap pr id tx (.slice la 0 lc) w5 := by assumption
  have lH : (headT g f T ho ap pr id).length ≤ 5000000 := by
    have e := congrArg ByteArray.size hhd
    rw [bytes_size] at e
    have y1 : (⟨#[60]⟩ : ByteArray).size = 1 := rfl
    have y2 : (⟨#[62, 49, 32]⟩ : ByteArray).size = 3 := rfl
    have y3 : (⟨#[45]⟩ : ByteArray).size = 1 := rfl
    have y4 : (⟨#[32]⟩ : ByteArray).size = 1 := rfl
    rw [← e]
    simp only [ByteArray.size_append]
    omega
  rw [hhd]
  obtain ⟨H, hH⟩ : ∃ H, headT g f T ho ap pr id = H := ⟨_, rfl⟩
  rw [hH] at lH ⊢
  have HH := Lib.hid hH
  have HB := Lib.hid P5.2.2.2.2.2.2.2.2.2
  obtain ⟨j0, j1, j4, j5, j6, j7, j8, j9, jz, jB⟩ := P5
  obtain ⟨S0, hS0⟩ : ∃ S, bytes H = S := ⟨_, rfl⟩
  rw [hS0]
  have HS0 := Lib.hid hS0
  have szS : S0.size ≤ 5000000 := by rw [← hS0, bytes_size]; exact lH
  have m1 : ¬ 9223372036854775807 < S0.size + 1 := by omega
  have m2 : ¬ 9223372036854775807 < S0.size + 1 + 4 := by omega
  have m3 : ¬ 9223372036854775807 < S0.size + 1 + 4 + tx.size := by omega
  clear hhd hH hS0 jB
  by_cases hx : 0 < tx.size
  · have hfin : S0 ++ ⟨#[45]⟩ ++ ⟨#[32, 239, 187, 191]⟩ ++ tx = bytes (headT g f T ho ap pr id ++ 45 :: behindT tx.data.toList) := by
      rw [text_is (L := H ++ [45]) (by rw [← HS0.out]; exact (one_is rfl).symm) hx, HH.out, List.append_assoc]; rfl
    have HFIN := Lib.hid hfin
    clear hfin
    go_wp2
    go_loopw [6, 7] (fun s i wr => s = .string (S0 ++ ⟨#[45]⟩) ∧ i = .int .i64 0 ∧ wr = w5) (fun _ _ _ => 0)
    case atStart => exact ⟨rfl, rfl, rfl⟩
    case round =>
      obtain ⟨rfl, rfl, rfl⟩ := hrel
      go_wp2
      go_ret2
      exact ⟨⟨_, HT.out, by rw [← HFIN.out]; rfl⟩, HB.out⟩
  · have hfin : S0 ++ ⟨#[45]⟩ = bytes (headT g f T ho ap pr id ++ 45 :: behindT tx.data.toList) := by
      rw [one_is HS0.out, text_no (by omega), HH.out]
    have HFIN := Lib.hid hfin
    clear hfin
    go_wp2
    go_loopw [6, 7] (fun s i wr => s = .string (S0 ++ ⟨#[45]⟩) ∧ i = .int .i64 0 ∧ wr = w5) (fun _ _ _ => 0)
    case atStart => exact ⟨rfl, rfl, rfl⟩
    case round =>
      obtain ⟨rfl, rfl, rfl⟩ := hrel
      go_wp2
      go_ret2
      exact ⟨⟨_, HT.out, by rw [← HFIN.out]; rfl⟩, HB.out⟩
end Go.Proofs.YtnaijahhogndjaaGreatDoor
/- What the document's own Print answers of every event, and that it is what sysl.Print answers. -/
namespace Go.Proofs.YtnaijahhogndjaaGreatDoor
open Go.ChangeShapes Go.WideShapes Go.ChangeAt Go.RowKit

/-- The text that Print answers of an event. -/
def PrintS (e : Ev) (S : ByteArray) : Prop :=
  (rightE e ≠ 0 ∧ S = ⟨#[]⟩) ∨ (rightE e = 0 ∧ ∃ T, TimeIs e.timed e.at' T ∧ S = bytes (printT e.grave e.from' T e.host e.app e.proc e.id e.data e.text))
theorem time_one {td : Bool} {a : Int} {T T' : List UInt8} (h : TimeIs td a T) (h' : TimeIs td a T') : T = T' := by
  rcases h with ⟨e, rfl⟩ | ⟨e, y, m, d, hh, i, s, k, hD, rfl⟩
  · rcases h' with ⟨_, rfl⟩ | ⟨e', _⟩
    · rfl
    · rw [e] at e'; cases e'
  · rcases h' with ⟨e', _⟩ | ⟨_, y', m', d', hh', i', s', k', hD', rfl⟩
    · rw [e] at e'; cases e'
    · obtain ⟨r1, n1⟩ := hD
      obtain ⟨r2, n2⟩ := hD'
      obtain ⟨rfl, rfl, rfl, rfl, rfl, rfl, rfl⟩ := Cal.nanos_inj r1 r2 (n1.trans n2.symm)
      rfl
theorem printS_one {e : Ev} {S S' : ByteArray} (h : PrintS e S) (h' : PrintS e S') : S = S' := by
  rcases h with ⟨h0, rfl⟩ | ⟨h0, T, hT, rfl⟩
  · rcases h' with ⟨_, rfl⟩ | ⟨h1, _⟩
    · rfl
    · exact absurd h1 h0
  · rcases h' with ⟨h1, _⟩ | ⟨_, T', hT', rfl⟩
    · exact absurd h0 h1
    · rw [time_one hT hT']
/-- What sysl.Print answers, at one stroke. -/
theorem printS_any {e : Ev} {w : World} {r : Ending} {w' : World} (h : PrintAns e w r w') : ∃ S, PrintS e S ∧ r = .returned (.tuple #[.string S, .int .i64 (rightE e)]) ∧ Below w.heap.size w w' := by
  obtain ⟨h1 | h1, h2⟩ := h
  · exact ⟨_, .inl ⟨h1.1, rfl⟩, h1.2, h2⟩
  · obtain ⟨h0, T, hT, hr⟩ := h1
    exact ⟨_, .inr ⟨h0, T, hT, rfl⟩, by rw [h0]; exact hr, h2⟩
set_option maxRecDepth 100000 in
theorem refPrint_any (e : Ev) (dv : Value) (w : World) (h : e.In w dv) (hl : (elmsT e.data).length ≤ 35184372088832) (htx : e.text.size ≤ 70368744177664) :
    Calls Tryz.prog 12 #[e.val dv] w fun r w' => ∃ S, PrintS e S ∧ r = .returned (.tuple #[.string S, .int .i64 (rightE e)]) ∧ Below w.heap.size w w' := by
  by_cases hr : rightE e = 0
  case neg => exact (refPrint_no e dv w h hr).mono fun r w' ⟨h1, h2⟩ => ⟨_, .inl ⟨hr, rfl⟩, h1, h2⟩
  case pos =>
    obtain ⟨la, lc, hdv⟩ := h.data.shape
    have hR := fun W (hW : Below w.heap.size w W) => refRight_any e dv W (h.below hW)
    obtain ⟨g, f, t, a, ho, ap, pr, id, da, tx⟩ := e
    subst hdv
    rw [hr] at hR
    obtain ⟨⟨g1, g2⟩, ⟨f1, f2⟩, _, ⟨wo1, wo2, wo3, wo4⟩, _, _, _, _⟩ := right_parts hr
    have s1 := word_len wo1 (by decide)
    have s2 := word_len wo2 (by decide)
    have s3 := word_len wo3 (by decide)
    have s4 := word_len wo4 (by decide)
    by_cases hda : da = []
    · subst hda
      cases t
      · refine (refPrint_f_none g f a ho ap pr id tx la lc w g1 g2 f1 f2 hR (by omega) (by omega) (by omega) (by omega) htx).mono ?_
        rintro r w' ⟨⟨T, hT, h1⟩, h2⟩
        exact ⟨_, .inr ⟨hr, T, hT, rfl⟩, by rw [hr, printT_head]; exact h1, h2⟩
      · refine (refPrint_t_none g f a ho ap pr id tx la lc w g1 g2 f1 f2 hR (by omega) (by omega) (by omega) (by omega) htx).mono ?_
        rintro r w' ⟨⟨T, hT, h1⟩, h2⟩
        exact ⟨_, .inr ⟨hr, T, hT, rfl⟩, by rw [hr, printT_head]; exact h1, h2⟩
    · cases t
      · refine (refPrint_f_some g f a ho ap pr id tx da la lc w g1 g2 f1 f2 hR hda h.data h.fits hl (by omega) (by omega) (by omega) (by omega) htx).mono ?_
        rintro r w' ⟨⟨T, hT, h1⟩, h2⟩
        exact ⟨_, .inr ⟨hr, T, hT, rfl⟩, by rw [hr, printT_head, if_neg hda]; exact h1, h2⟩
      · refine (refPrint_t_some g f a ho ap pr id tx da la lc w g1 g2 f1 f2 hR hda h.data h.fits hl (by omega) (by omega) (by omega) (by omega) htx).mono ?_
        rintro r w' ⟨⟨T, hT, h1⟩, h2⟩
        exact ⟨_, .inr ⟨hr, T, hT, rfl⟩, by rw [hr, printT_head, if_neg hda]; exact h1, h2⟩
end Go.Proofs.YtnaijahhogndjaaGreatDoor
/- What slices.Equal of parameters, sysl.sameElem and slices.EqualFunc of elements answer. Condition: sizes. -/
namespace Go.Proofs.YtnaijahhogndjaaGreatDoor
open Go.ChangeShapes Go.WideShapes Go.ChangeAt Go.RowKit

theorem take_eq_next {α : Type} {a b : List α} {k : Nat} {x : α} (h : a.take k = b.take k) (h1 : a[k]? = some x) (h2 : b[k]? = some x) : a.take (k + 1) = b.take (k + 1) := by
  obtain ⟨l1, e1⟩ := List.getElem?_eq_some_iff.1 h1
  obtain ⟨l2, e2⟩ := List.getElem?_eq_some_iff.1 h2
  rw [List.take_succ_eq_append_getElem l1, List.take_succ_eq_append_getElem l2, e1, e2, h]
theorem take_eq_all {α : Type} {a b : List α} (h : a.take a.length = b.take a.length) (hl : a.length = b.length) : a = b := by
  rw [List.take_length, hl, List.take_length] at h
  exact h
theorem not_eq_at {α : Type} {a b : List α} {k : Nat} {x y : α} (h1 : a[k]? = some x) (h2 : b[k]? = some y) (hne : x ≠ y) : ¬ a = b := fun h => by
  rw [h, h2] at h1
  exact hne (Option.some.inj h1).symm
set_option maxHeartbeats 4000000 in
set_option maxRecDepth 100000 in
theorem equalP_any (ps qs : List Prm) (va vb : Value) (w : World) (hA : PrmsAt w va ps) (hB : PrmsAt w vb qs) (hs : ps.length ≤ 17592186044416) :
    Calls Tryz.prog 81 #[va, vb] w fun e w' => e = .returned (.bool (decide (ps = qs))) ∧ Below w.heap.size w w' := by
  obtain ⟨a, c, rfl, hma⟩ := hA
  obtain ⟨b, d, rfl, hmb⟩ := hB
  by_cases hlen : ps.length = qs.length
  case neg =>
    have hne : (((ps.length : Nat) : Int) != ((qs.length : Nat) : Int)) = true := by rw [bne, beq_eq_false_iff_ne.2 (by omega)]; rfl
    rw [show decide (ps = qs) = false from decide_eq_false fun h => hlen (by rw [h])]
    clear hma hmb hlen
    go_enter Tryz.func81, Tryz.ntmps81
    go_wp2
    go_ret
    exact ⟨rfl, Below.refl _ _⟩
  case pos =>
    have HLEN := Lib.hid hlen
    have HA := Lib.hid hma
    have HB := Lib.hid hmb
    have hz : (((ps.length : Nat) : Int) != ((qs.length : Nat) : Int)) = false := by rw [bne, beq_iff_eq.2 (by omega)]; rfl
    obtain ⟨R, hR⟩ : ∃ R, decide (ps = qs) = R := ⟨_, rfl⟩
    rw [hR]
    have HR := Lib.hid hR
    clear hma hmb hlen hR
    go_enter Tryz.func81, Tryz.ntmps81
    go_wp2
    go_loopw [13] (fun i wr => ∃ k : Nat, k ≤ ps.length ∧ i = .int .i64 k ∧ Hid (ps.take k = qs.take k) ∧ Below w.heap.size w wr) (fun i _ => ps.length - (intOf i).toNat)
    case atStart => exact ⟨0, Nat.zero_le _, rfl, Lib.hid rfl, Below.refl _ _⟩
    case round =>
      obtain ⟨k, hk, rfl, HT, hBw⟩ := hrel
      by_cases hlt : k < ps.length
      · have hlt2 : k < qs.length := by rw [← HLEN.out]; exact hlt
        obtain ⟨p, hp⟩ : ∃ x, ps[k]? = some x := ⟨ps[k]'hlt, List.getElem?_eq_getElem _⟩
        obtain ⟨q, hq⟩ : ∃ x, qs[k]? = some x := ⟨qs[k]'hlt2, List.getElem?_eq_getElem _⟩
        obtain ⟨b1, o1, rfl, hl1, hc1⟩ := HA.out (by omega)
        obtain ⟨b2, o2, rfl, hl2, hc2⟩ := HB.out (by omega)
        have p1 := (hBw.cell (p := ⟨b1, o1 + 2 * k, none⟩) hl1).trans (hc1 k p hp).1
        have p2 := (hBw.cell (p := ⟨b1, o1 + 2 * k + 1, none⟩) hl1).trans (hc1 k p hp).2
        have r1 := (hBw.cell (p := ⟨b2, o2 + 2 * k, none⟩) hl2).trans (hc2 k q hq).1
        have r2 := (hBw.cell (p := ⟨b2, o2 + 2 * k + 1, none⟩) hl2).trans (hc2 k q hq).2
        rw [Nat.mul_comm 2 k] at p1 p2 r1 r2
        have p1d : wr.drew.cell? ⟨b1, o1 + k * 2, none⟩ = some (.string p.1) := p1
        have p2d : wr.drew.cell? ⟨b1, o1 + k * 2 + 1, none⟩ = some (.string p.2) := p2
        have r1d : wr.drew.cell? ⟨b2, o2 + k * 2, none⟩ = some (.string q.1) := r1
        have r2d : wr.drew.cell? ⟨b2, o2 + k * 2 + 1, none⟩ = some (.string q.2) := r2
        have HP := Lib.hid hp
        have HQ := Lib.hid hq
        have HBW := Lib.hid hBw
        clear hc1 hc2 hp hq hBw
        by_cases hpq : p = q
        case neg =>
          have HD := Lib.hid (show R = false from by rw [← HR.out]; exact decide_eq_false (not_eq_at HP.out HQ.out hpq))
          by_cases ha : p.1 = q.1
          · have hb : p.2 ≠ q.2 := fun h => hpq (Prod.ext ha h)
            have t1 : (p.1.toList == q.1.toList) = true := by rw [ha]; exact toList_same _
            have t2 := toList_other hb
            clear hpq ha hb
            go_wp2_with fail
            go_quiet (fail)
            go_wp2
            go_ret
            exact ⟨by rw [HD.out]; rfl, HBW.out.trans ((drewN_b _ _).mono HBW.out.size)⟩
          · have t1 := toList_other ha
            clear hpq ha
            go_wp2_with fail
            go_quiet (fail)
            go_wp2
            go_ret
            exact ⟨by rw [HD.out]; rfl, HBW.out.trans ((drewN_b _ _).mono HBW.out.size)⟩
        case pos =>
          subst hpq
          have t1 := toList_same p.1
          have t2 := toList_same p.2
          have HTK := Lib.hid (take_eq_next HT.out HP.out HQ.out)
          go_wp2_with fail
          go_quiet (fail)
          go_wp2
          go_roundw
          case rel => exact ⟨k + 1, by omega, by go_num, HTK, HBW.out.trans ((drewN_b _ _).mono HBW.out.size)⟩
          case measure => simp [intOf]; omega
      · obtain rfl : k = ps.length := by omega
        have HD := Lib.hid (show R = true from by rw [← HR.out]; exact decide_eq_true (take_eq_all HT.out HLEN.out))
        have HBW := Lib.hid hBw
        clear hBw
        go_wp2
        go_ret
        exact ⟨by rw [HD.out]; rfl, HBW.out⟩
set_option maxHeartbeats 4000000 in
set_option maxRecDepth 100000 in
theorem sameElem_any (i j : ByteArray) (ps qs : List Prm) (va vb : Value) (w : World) (hA : PrmsAt w va ps) (hB : PrmsAt w vb qs) (hs : ps.length ≤ 17592186044416) :
    Calls Tryz.prog 52 #[.agg #[.string i, va], .agg #[.string j, vb]] w fun e w' => e = .returned (.bool (decide ((i, ps) = (j, qs)))) ∧ Below w.heap.size w w' := by
  obtain ⟨a, c, hva⟩ : ∃ a c, va = .slice a ps.length c := by obtain ⟨a, c, h, _⟩ := hA; exact ⟨a, c, h⟩
  obtain ⟨b, d, hvb⟩ : ∃ a c, vb = .slice a qs.length c := by obtain ⟨a, c, h, _⟩ := hB; exact ⟨a, c, h⟩
  subst hva
  subst hvb
  have hb0 : Below w.heap.size w ((w.alloc (.cells #[.string i, .slice a ps.length c] 52)).alloc (.cells #[.string j, .slice b qs.length d] 52)) := ((Below.refl _ _).alloc (Nat.le_refl _) _).alloc (by simp) _
  have HC := Lib.hid (equalP_any ps qs _ _ _ (hA.below hb0) (hB.below hb0) hs)
  have HB0 := Lib.hid hb0
  clear hA hB hb0
  by_cases hij : i = j
  · subst hij
    have t1 := toList_same i
    have hd : decide (((i, ps) : Elm) = (i, qs)) = decide (ps = qs) := by
      by_cases h : ps = qs
      · rw [h, decide_eq_true rfl, decide_eq_true rfl]
      · rw [decide_eq_false h, decide_eq_false fun hh => h (congrArg Prod.snd hh)]
    rw [hd]
    obtain ⟨R, hR⟩ : ∃ R, decide (ps = qs) = R := ⟨_, rfl⟩
    rw [hR] at HC ⊢
    clear hR hd
    go_enter Tryz.func52, Tryz.ntmps52
    go_wp2_with fail
    refine HC.out.mono ?_
    rintro e w' ⟨rfl, hb⟩
    have HB := Lib.hid (HB0.out.trans (hb.mono HB0.out.size))
    clear hb
    cases R <;>
    · go_wp2
      go_ret
      exact ⟨rfl, HB.out⟩
  · have t1 := toList_other hij
    rw [show decide (((i, ps) : Elm) = (j, qs)) = false from decide_eq_false fun h => hij (congrArg Prod.fst h)]
    clear hij HC
    go_enter Tryz.func52, Tryz.ntmps52
    go_wp2
    go_ret
    exact ⟨rfl, HB0.out⟩
set_option maxHeartbeats 4000000 in
set_option maxRecDepth 100000 in
theorem eqElems_any (es fs : List Elm) (va vb : Value) (w : World) (hA : ElmsAt w va es) (hB : ElmsAt w vb fs) (hfit : ElmsFit es) :
    Calls Tryz.prog 51 #[va, vb, .func (.func 52) #[] #[]] w fun e w' => e = .returned (.bool (decide (es = fs))) ∧ Below w.heap.size w w' := by
  obtain ⟨a, c, rfl, hma⟩ := hA
  obtain ⟨b, d, rfl, hmb⟩ := hB
  have hs : es.length ≤ 17592186044416 := hfit.1
  by_cases hlen : es.length = fs.length
  case neg =>
    have hne : (((es.length : Nat) : Int) != ((fs.length : Nat) : Int)) = true := by rw [bne, beq_eq_false_iff_ne.2 (by omega)]; rfl
    rw [show decide (es = fs) = false from decide_eq_false fun h => hlen (by rw [h])]
    clear hma hmb hlen
    go_enter Tryz.func51, Tryz.ntmps51
    go_wp2
    go_ret
    exact ⟨rfl, Below.refl _ _⟩
  case pos =>
    have HLEN := Lib.hid hlen
    have HA := Lib.hid hma
    have HB := Lib.hid hmb
    have HFIT := Lib.hid hfit.2
    have hz : (((es.length : Nat) : Int) != ((fs.length : Nat) : Int)) = false := by rw [bne, beq_iff_eq.2 (by omega)]; rfl
    obtain ⟨R, hR⟩ : ∃ R, decide (es = fs) = R := ⟨_, rfl⟩
    rw [hR]
    have HR := Lib.hid hR
    clear hma hmb hlen hR hfit
    go_enter Tryz.func51, Tryz.ntmps51
    go_wp2
    go_loopw [17] (fun i wr => ∃ k : Nat, k ≤ es.length ∧ i = .int .i64 k ∧ Hid (es.take k = fs.take k) ∧ Below w.heap.size w wr) (fun i _ => es.length - (intOf i).toNat)
    case atStart => exact ⟨0, Nat.zero_le _, rfl, Lib.hid rfl, Below.refl _ _⟩
    case round =>
      obtain ⟨k, hk, rfl, HT, hBw⟩ := hrel
      by_cases hlt : k < es.length
      · have hlt2 : k < fs.length := by rw [← HLEN.out]; exact hlt
        obtain ⟨x, hx⟩ : ∃ x, es[k]? = some x := ⟨es[k]'hlt, List.getElem?_eq_getElem _⟩
        obtain ⟨y, hy⟩ : ∃ x, fs[k]? = some x := ⟨fs[k]'hlt2, List.getElem?_eq_getElem _⟩
        obtain ⟨b1, o1, rfl, hl1, hc1⟩ := HA.out (by omega)
        obtain ⟨b2, o2, rfl, hl2, hc2⟩ := HB.out (by omega)
        obtain ⟨v1, c1, c2, hp1⟩ := hc1 k x hx
        obtain ⟨v2, f1, f2, hp2⟩ := hc2 k y hy
        obtain ⟨x1, x2⟩ := x
        obtain ⟨y1, y2⟩ := y
        obtain ⟨s1, n1, hv1⟩ : ∃ a c, v1 = .slice a x2.length c := by obtain ⟨a, c, h, _⟩ := hp1; exact ⟨a, c, h⟩
        obtain ⟨s2, n2, hv2⟩ : ∃ a c, v2 = .slice a y2.length c := by obtain ⟨a, c, h, _⟩ := hp2; exact ⟨a, c, h⟩
        subst hv1
        subst hv2
        have hxl : x2.length ≤ 17592186044416 := (HFIT.out (x1, x2) (List.mem_of_getElem? hx)).2.1
        rw [Nat.mul_comm 2 k] at c1 c2 f1 f2
        simp only at c1 c2 f1 f2
        have d1 : wr.cell? ⟨b1, o1 + k * 2, none⟩ = some (.string x1) := (hBw.cell (p := ⟨b1, o1 + k * 2, none⟩) hl1).trans c1
        have d2 : wr.cell? ⟨b1, o1 + k * 2 + 1, none⟩ = some (.slice s1 x2.length n1) := (hBw.cell (p := ⟨b1, o1 + k * 2 + 1, none⟩) hl1).trans c2
        have e1 : ∀ W, Below w.heap.size w W → W.cell? ⟨b2, o2 + k * 2, none⟩ = some (.string y1) := fun W hW => (hW.cell (p := ⟨b2, o2 + k * 2, none⟩) hl2).trans f1
        have e2 : ∀ W, Below w.heap.size w W → W.cell? ⟨b2, o2 + k * 2 + 1, none⟩ = some (.slice s2 y2.length n2) := fun W hW => (hW.cell (p := ⟨b2, o2 + k * 2 + 1, none⟩) hl2).trans f2
        have hB1 := hBw.alloc hBw.size (.cells #[.string x1, .slice s1 x2.length n1] 52)
        have g1 := e1 _ hB1
        have g2 := e2 _ hB1
        have hB2 := hB1.alloc hB1.size (.cells #[.string y1, .slice s2 y2.length n2] 52)
        have HC := Lib.hid (sameElem_any x1 y1 x2 y2 _ _ _ (hp1.below hB2) (hp2.below hB2) hxl)
        have HX := Lib.hid hx
        have HY := Lib.hid hy
        have HB2 := Lib.hid hB2
        clear hc1 hc2 c1 c2 f1 f2 hp1 hp2 hx hy hBw hB1 hB2 e1 e2
        by_cases hpq : ((x1, x2) : Elm) = (y1, y2)
        case neg =>
          have HD := Lib.hid (show R = false from by rw [← HR.out]; exact decide_eq_false (not_eq_at HX.out HY.out hpq))
          rw [decide_eq_false hpq] at HC
          clear hpq
          go_wp2_with fail
          refine HC.out.mono ?_
          rintro e w' ⟨rfl, hb⟩
          have HB3 := Lib.hid (HB2.out.trans (hb.mono HB2.out.size))
          clear hb
          go_wp2
          go_ret
          exact ⟨by rw [HD.out]; rfl, HB3.out⟩
        case pos =>
          rw [decide_eq_true hpq] at HC
          rw [← hpq] at HY
          clear hpq
          have HTK := Lib.hid (take_eq_next HT.out HX.out HY.out)
          go_wp2_with fail
          refine HC.out.mono ?_
          rintro e w' ⟨rfl, hb⟩
          have HB3 := Lib.hid (HB2.out.trans (hb.mono HB2.out.size))
          clear hb
          go_wp2
          go_roundw
          case rel => exact ⟨k + 1, by omega, by go_num, HTK, HB3.out⟩
          case measure => simp [intOf]; omega
      · obtain rfl : k = es.length := by omega
        have HD := Lib.hid (show R = true from by rw [← HR.out]; exact decide_eq_true (take_eq_all HT.out HLEN.out))
        have HBW := Lib.hid hBw
        clear hBw
        go_wp2
        go_ret
        exact ⟨by rw [HD.out]; rfl, HBW.out⟩
end Go.Proofs.YtnaijahhogndjaaGreatDoor
/- What sysl.Same answers where one of the plain parts ahead of the elements differs: no. -/
namespace Go.Proofs.YtnaijahhogndjaaGreatDoor
open Go.ChangeShapes Go.WideShapes Go.ChangeAt Go.RowKit

set_option maxHeartbeats 8000000 in
set_option maxRecDepth 100000 in
theorem sameP_ne0 (g g' : Int) (f f' : Int) (t t' : Bool) (a a' : Int) (ho ho' : ByteArray) (ap ap' : ByteArray) (pr pr' : ByteArray) (id id' : ByteArray) (tx tx' : ByteArray) (la lb : Option Addr) (na nb ca cb : Nat) (w : World) (hne : g ≠ g') :
    Calls Tryz.prog 21 #[.agg #[.int .i64 g, .int .i64 f, .bool t, .int .i64 a, .string ho, .string ap, .string pr, .string id, .slice la na ca, .string tx], .agg #[.int .i64 g', .int .i64 f', .bool t', .int .i64 a', .string ho', .string ap', .string pr', .string id', .slice lb nb cb, .string tx']] w
      fun e w' => e = .returned (.bool false) ∧ Below w.heap.size w w' := by
  have hb0 : ∀ o1 o2 : Obj, Below w.heap.size w ((w.alloc o1).alloc o2) := fun _ _ => ((Below.refl _ _).alloc (Nat.le_refl _) _).alloc (by simp) _
  have q : (g == g') = false := beq_eq_false_iff_ne.2 hne
  clear hne
  go_enter Tryz.func21, Tryz.ntmps21
  go_wp2
  go_ret
  exact ⟨rfl, hb0 _ _⟩
set_option maxHeartbeats 8000000 in
set_option maxRecDepth 100000 in
theorem sameP_ne1 (g : Int) (f f' : Int) (t t' : Bool) (a a' : Int) (ho ho' : ByteArray) (ap ap' : ByteArray) (pr pr' : ByteArray) (id id' : ByteArray) (tx tx' : ByteArray) (la lb : Option Addr) (na nb ca cb : Nat) (w : World) (hne : f ≠ f') :
    Calls Tryz.prog 21 #[.agg #[.int .i64 g, .int .i64 f, .bool t, .int .i64 a, .string ho, .string ap, .string pr, .string id, .slice la na ca, .string tx], .agg #[.int .i64 g, .int .i64 f', .bool t', .int .i64 a', .string ho', .string ap', .string pr', .string id', .slice lb nb cb, .string tx']] w
      fun e w' => e = .returned (.bool false) ∧ Below w.heap.size w w' := by
  have hb0 : ∀ o1 o2 : Obj, Below w.heap.size w ((w.alloc o1).alloc o2) := fun _ _ => ((Below.refl _ _).alloc (Nat.le_refl _) _).alloc (by simp) _
  have q : (f == f') = false := beq_eq_false_iff_ne.2 hne
  clear hne
  go_enter Tryz.func21, Tryz.ntmps21
  go_wp2
  go_ret
  exact ⟨rfl, hb0 _ _⟩
set_option maxHeartbeats 8000000 in
set_option maxRecDepth 100000 in
theorem sameP_ne2 (g : Int) (f : Int) (t t' : Bool) (a a' : Int) (ho ho' : ByteArray) (ap ap' : ByteArray) (pr pr' : ByteArray) (id id' : ByteArray) (tx tx' : ByteArray) (la lb : Option Addr) (na nb ca cb : Nat) (w : World) (hne : t ≠ t') :
    Calls Tryz.prog 21 #[.agg #[.int .i64 g, .int .i64 f, .bool t, .int .i64 a, .string ho, .string ap, .string pr, .string id, .slice la na ca, .string tx], .agg #[.int .i64 g, .int .i64 f, .bool t', .int .i64 a', .string ho', .string ap', .string pr', .string id', .slice lb nb cb, .string tx']] w
      fun e w' => e = .returned (.bool false) ∧ Below w.heap.size w w' := by
  have hb0 : ∀ o1 o2 : Obj, Below w.heap.size w ((w.alloc o1).alloc o2) := fun _ _ => ((Below.refl _ _).alloc (Nat.le_refl _) _).alloc (by simp) _
  rcases (show (t = true ∧ t' = false) ∨ (t = false ∧ t' = true) by revert hne; cases t <;> cases t' <;> simp) with ⟨rfl, rfl⟩ | ⟨rfl, rfl⟩
  · clear hne
    go_enter Tryz.func21, Tryz.ntmps21
    go_wp2
    go_ret
    exact ⟨rfl, hb0 _ _⟩
  · clear hne
    go_enter Tryz.func21, Tryz.ntmps21
    go_wp2
    go_ret
    exact ⟨rfl, hb0 _ _⟩
set_option maxHeartbeats 8000000 in
set_option maxRecDepth 100000 in
theorem sameP_ne3 (g : Int) (f : Int) (t : Bool) (a a' : Int) (ho ho' : ByteArray) (ap ap' : ByteArray) (pr pr' : ByteArray) (id id' : ByteArray) (tx tx' : ByteArray) (la lb : Option Addr) (na nb ca cb : Nat) (w : World) (hne : a ≠ a') :
    Calls Tryz.prog 21 #[.agg #[.int .i64 g, .int .i64 f, .bool t, .int .i64 a, .string ho, .string ap, .string pr, .string id, .slice la na ca, .string tx], .agg #[.int .i64 g, .int .i64 f, .bool t, .int .i64 a', .string ho', .string ap', .string pr', .string id', .slice lb nb cb, .string tx']] w
      fun e w' => e = .returned (.bool false) ∧ Below w.heap.size w w' := by
  have hb0 : ∀ o1 o2 : Obj, Below w.heap.size w ((w.alloc o1).alloc o2) := fun _ _ => ((Below.refl _ _).alloc (Nat.le_refl _) _).alloc (by simp) _
  have q : (a == a') = false := beq_eq_false_iff_ne.2 hne
  clear hne
  go_enter Tryz.func21, Tryz.ntmps21
  go_wp2
  go_ret
  exact ⟨rfl, hb0 _ _⟩
set_option maxHeartbeats 8000000 in
set_option maxRecDepth 100000 in
theorem sameP_ne4 (g : Int) (f : Int) (t : Bool) (a : Int) (ho ho' : ByteArray) (ap ap' : ByteArray) (pr pr' : ByteArray) (id id' : ByteArray) (tx tx' : ByteArray) (la lb : Option Addr) (na nb ca cb : Nat) (w : World) (hne : ho ≠ ho') :
    Calls Tryz.prog 21 #[.agg #[.int .i64 g, .int .i64 f, .bool t, .int .i64 a, .string ho, .string ap, .string pr, .string id, .slice la na ca, .string tx], .agg #[.int .i64 g, .int .i64 f, .bool t, .int .i64 a, .string ho', .string ap', .string pr', .string id', .slice lb nb cb, .string tx']] w
      fun e w' => e = .returned (.bool false) ∧ Below w.heap.size w w' := by
  have hb0 : ∀ o1 o2 : Obj, Below w.heap.size w ((w.alloc o1).alloc o2) := fun _ _ => ((Below.refl _ _).alloc (Nat.le_refl _) _).alloc (by simp) _
  have q := toList_other hne
  clear hne
  go_enter Tryz.func21, Tryz.ntmps21
  go_wp2
  go_ret
  exact ⟨rfl, hb0 _ _⟩
set_option maxHeartbeats 8000000 in
set_option maxRecDepth 100000 in
theorem sameP_ne5 (g : Int) (f : Int) (t : Bool) (a : Int) (ho : ByteArray) (ap ap' : ByteArray) (pr pr' : ByteArray) (id id' : ByteArray) (tx tx' : ByteArray) (la lb : Option Addr) (na nb ca cb : Nat) (w : World) (hne : ap ≠ ap') :
    Calls Tryz.prog 21 #[.agg #[.int .i64 g, .int .i64 f, .bool t, .int .i64 a, .string ho, .string ap, .string pr, .string id, .slice la na ca, .string tx], .agg #[.int .i64 g, .int .i64 f, .bool t, .int .i64 a, .string ho, .string ap', .string pr', .string id', .slice lb nb cb, .string tx']] w
      fun e w' => e = .returned (.bool false) ∧ Below w.heap.size w w' := by
  have hb0 : ∀ o1 o2 : Obj, Below w.heap.size w ((w.alloc o1).alloc o2) := fun _ _ => ((Below.refl _ _).alloc (Nat.le_refl _) _).alloc (by simp) _
  have e4 := toList_same ho
  have q := toList_other hne
  clear hne
  go_enter Tryz.func21, Tryz.ntmps21
  go_wp2
  go_ret
  exact ⟨rfl, hb0 _ _⟩
set_option maxHeartbeats 8000000 in
set_option maxRecDepth 100000 in
theorem sameP_ne6 (g : Int) (f : Int) (t : Bool) (a : Int) (ho : ByteArray) (ap : ByteArray) (pr pr' : ByteArray) (id id' : ByteArray) (tx tx' : ByteArray) (la lb : Option Addr) (na nb ca cb : Nat) (w : World) (hne : pr ≠ pr') :
    Calls Tryz.prog 21 #[.agg #[.int .i64 g, .int .i64 f, .bool t, .int .i64 a, .string ho, .string ap, .string pr, .string id, .slice la na ca, .string tx], .agg #[.int .i64 g, .int .i64 f, .bool t, .int .i64 a, .string ho, .string ap, .string pr', .string id', .slice lb nb cb, .string tx']] w
      fun e w' => e = .returned (.bool false) ∧ Below w.heap.size w w' := by
  have hb0 : ∀ o1 o2 : Obj, Below w.heap.size w ((w.alloc o1).alloc o2) := fun _ _ => ((Below.refl _ _).alloc (Nat.le_refl _) _).alloc (by simp) _
  have e4 := toList_same ho
  have e5 := toList_same ap
  have q := toList_other hne
  clear hne
  go_enter Tryz.func21, Tryz.ntmps21
  go_wp2
  go_ret
  exact ⟨rfl, hb0 _ _⟩
set_option maxHeartbeats 8000000 in
set_option maxRecDepth 100000 in
theorem sameP_ne7 (g : Int) (f : Int) (t : Bool) (a : Int) (ho : ByteArray) (ap : ByteArray) (pr : ByteArray) (id id' : ByteArray) (tx tx' : ByteArray) (la lb : Option Addr) (na nb ca cb : Nat) (w : World) (hne : id ≠ id') :
    Calls Tryz.prog 21 #[.agg #[.int .i64 g, .int .i64 f, .bool t, .int .i64 a, .string ho, .string ap, .string pr, .string id, .slice la na ca, .string tx], .agg #[.int .i64 g, .int .i64 f, .bool t, .int .i64 a, .string ho, .string ap, .string pr, .string id', .slice lb nb cb, .string tx']] w
      fun e w' => e = .returned (.bool false) ∧ Below w.heap.size w w' := by
  have hb0 : ∀ o1 o2 : Obj, Below w.heap.size w ((w.alloc o1).alloc o2) := fun _ _ => ((Below.refl _ _).alloc (Nat.le_refl _) _).alloc (by simp) _
  have e4 := toList_same ho
  have e5 := toList_same ap
  have e6 := toList_same pr
  have q := toList_other hne
  clear hne
  go_enter Tryz.func21, Tryz.ntmps21
  go_wp2
  go_ret
  exact ⟨rfl, hb0 _ _⟩
end Go.Proofs.YtnaijahhogndjaaGreatDoor
