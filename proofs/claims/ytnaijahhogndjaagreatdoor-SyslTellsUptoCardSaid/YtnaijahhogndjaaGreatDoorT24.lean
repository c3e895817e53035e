/- The texts Tells, Met, one behind the other. -/
import Derived.Test.YtnaijahhogndjaaGreatDoorT21
import Derived.Test.YtnaijahhogndjaaGreatDoorT22
import Derived.Test.YtnaijahhogndjaaGreatDoorT23
import Derived.Test.YtnaijahhogndjaaGreatDoorRows
import Derived.Test.YtnaijahhogndjaaGreatDoorCards
import Derived.Test.YtnaijahhogndjaaGreatDoorTie
import Derived.ProofKit
import Derived.LaidMore
import Derived.OpenShut
import Derived.ShutString
import Derived.ChangeOld
import Derived.Below
import Derived.Lib.SmallJoins
import Derived.Lib.LaidTab
import Derived.Lib.LaidU8T
import Derived.Stop.Joined
import Derived.SevenTiedAt
import Derived.PinnedBridge
import Derived.Lay
import Derived.LaidOnce
import Derived.HandedShaped
import Derived.Stop.LaidErr
/- The walk of SyslTells: which events are right, an event's text, a value's, words, and parameters, are as the document says. -/
namespace Go.Proofs.YtnaijahhogndjaaGreatDoor.syslTells
open Go.ChangeShapes Go.WideShapes Go.ChangeAt Go.RowKit

/-- Ten cells of a block hold an event. -/
abbrev TenAt (b : Nat) (g f : Int) (t : Bool) (a : Int) (ho ap pr id : ByteArray) (dv : Value) (tx : ByteArray) (W : World) : Prop :=
  b < W.heap.size ∧ W.cell? ⟨b, 0, none⟩ = some (.int .i64 g) ∧ W.cell? ⟨b, 1, none⟩ = some (.int .i64 f) ∧ W.cell? ⟨b, 2, none⟩ = some (.bool t) ∧ W.cell? ⟨b, 3, none⟩ = some (.int .i64 a) ∧ W.cell? ⟨b, 4, none⟩ = some (.string ho) ∧ W.cell? ⟨b, 5, none⟩ = some (.string ap) ∧ W.cell? ⟨b, 6, none⟩ = some (.string pr) ∧ W.cell? ⟨b, 7, none⟩ = some (.string id) ∧ W.cell? ⟨b, 8, none⟩ = some dv ∧ W.cell? ⟨b, 9, none⟩ = some (.string tx)
theorem ten_below {b : Nat} {g f : Int} {t : Bool} {a : Int} {ho ap pr id : ByteArray} {dv : Value} {tx : ByteArray} {W W' : World} (h : TenAt b g f t a ho ap pr id dv tx W) (hb : Below W.heap.size W W') : TenAt b g f t a ho ap pr id dv tx W' := by
  obtain ⟨hl, h0, h1, h2, h3, h4, h5, h6, h7, h8, h9⟩ := h
  have hc := (bcell hb).1
  exact ⟨Nat.lt_of_lt_of_le hl hb.size, (hc _ _ hl).trans h0, (hc _ _ hl).trans h1, (hc _ _ hl).trans h2, (hc _ _ hl).trans h3, (hc _ _ hl).trans h4, (hc _ _ hl).trans h5, (hc _ _ hl).trans h6, (hc _ _ hl).trans h7, (hc _ _ hl).trans h8, (hc _ _ hl).trans h9⟩
theorem same_bool {x y : Ev} {b B : Bool} (h : b = true ↔ x = y) (h' : B = true ↔ x = y) : b = B := by
  rw [Bool.eq_iff_iff, h, h']
theorem same_has (x y : Ev) : ∃ B : Bool, B = true ↔ x = y := by
  rcases Classical.em (x = y) with h | h
  · exact ⟨true, by simp [h]⟩
  · exact ⟨false, by simp [h]⟩
set_option maxHeartbeats 16000000 in
set_option maxRecDepth 100000 in
theorem walk (x y : Ev) (va vb : Value) (s id' nm : ByteArray) (most : Int) (w : World) (hS : Std w) (hm : Max w) (hP : Cal.Pow w) (hx : x.In w va) (hy : y.In w vb) (lx : (elmsT x.data).length ≤ 35184372088832) (tx1 : x.text.size ≤ 70368744177664) (hs : s.size ≤ 35184372088832) :
    Calls Tryz.prog 3 #[.agg (x.cs va ++ (.string s :: .int .i64 most :: .string id' :: .string nm :: y.cs vb)).toArray] w fun e w' => e = .returned (.bool true) ∧ Below w.heap.size w w' := by
  obtain ⟨la, ca, rfl⟩ := hx.data.shape
  obtain ⟨lb, cb, rfl⟩ := hy.data.shape
  obtain ⟨g, f, t, a, ho, ap, pr, id, da, tx⟩ := x
  obtain ⟨g', f', t', a', ho', ap', pr', jd, db, tx'⟩ := y
  show Calls Tryz.prog 3 #[.agg #[.int .i64 g, .int .i64 f, .bool t, .int .i64 a, .string ho, .string ap, .string pr, .string id, .slice la da.length ca, .string tx, .string s, .int .i64 most, .string id', .string nm, .int .i64 g', .int .i64 f', .bool t', .int .i64 a', .string ho', .string ap', .string pr', .string jd, .slice lb db.length cb, .string tx']] w _
  obtain ⟨W3, hW3⟩ : ∃ W, (((w.alloc (.cells #[.int .i64 g, .int .i64 f, .bool t, .int .i64 a, .string ho, .string ap, .string pr, .string id, .slice la da.length ca, .string tx, .string s, .int .i64 most, .string id', .string nm, .int .i64 g', .int .i64 f', .bool t', .int .i64 a', .string ho', .string ap', .string pr', .string jd, .slice lb db.length cb, .string tx'] 26)).alloc (.cells #[.int .i64 g, .int .i64 f, .bool t, .int .i64 a, .string ho, .string ap, .string pr, .string id, .slice la da.length ca, .string tx] 24)).alloc (.cells #[.int .i64 g', .int .i64 f', .bool t', .int .i64 a', .string ho', .string ap', .string pr', .string jd, .slice lb db.length cb, .string tx'] 24)) = W := ⟨_, rfl⟩
  have B3 : Below w.heap.size w W3 := by rw [← hW3]; exact (((Below.refl _ _).alloc (Nat.le_refl _) _).alloc (by simp) _).alloc (by simp <;> omega) _
  have E3 : TenAt (w.heap.size + 1) g f t a ho ap pr id (.slice la da.length ca) tx W3 := by
    rw [← hW3]
    refine ⟨by simp <;> omega, ?_, ?_, ?_, ?_, ?_, ?_, ?_, ?_, ?_, ?_⟩ <;> simp [go_sem]
  have F3 : TenAt (w.heap.size + 1 + 1) g' f' t' a' ho' ap' pr' jd (.slice lb db.length cb) tx' W3 := by
    rw [← hW3]
    refine ⟨by simp, ?_, ?_, ?_, ?_, ?_, ?_, ?_, ?_, ?_, ?_⟩ <;> simp [go_sem]
  obtain ⟨R, hR⟩ : ∃ R, rightE ⟨g, f, t, a, ho, ap, pr, id, da, tx⟩ = R := ⟨_, rfl⟩
  obtain ⟨V, hV⟩ : ∃ V, bytes (valueL s.data.toList) = V := ⟨_, rfl⟩
  obtain ⟨P, hPl⟩ : ∃ P, plainB s.data.toList most = P := ⟨_, rfl⟩
  obtain ⟨⟨gv, gb⟩, hG⟩ : ∃ G, getL da id' nm = G := ⟨_, rfl⟩
  obtain ⟨B, hB⟩ := same_has ⟨g, f, t, a, ho, ap, pr, id, da, tx⟩ ⟨g', f', t', a', ho', ap', pr', jd, db, tx'⟩
  have C11 : Hid (∀ W, Below w.heap.size w W → Calls Tryz.prog 11 #[.agg #[.int .i64 g, .int .i64 f, .bool t, .int .i64 a, .string ho, .string ap, .string pr, .string id, .slice la da.length ca, .string tx]] W fun r w' => ∃ S, PrintS ⟨g, f, t, a, ho, ap, pr, id, da, tx⟩ S ∧ r = .returned (.tuple #[.string S, .int .i64 R]) ∧ Below W.heap.size W w') := Lib.hid fun W hW => (print_any ⟨g, f, t, a, ho, ap, pr, id, da, tx⟩ (.slice la da.length ca) W (hS.below hW) (hP.below hW) (hx.below hW) lx tx1).mono fun r w' h => by
    obtain ⟨S, h1, h2, h3⟩ := printS_any h
    exact ⟨S, h1, by rw [← hR]; exact h2, h3⟩
  have C12 : Hid (∀ W, Below w.heap.size w W → Calls Tryz.prog 12 #[.agg #[.int .i64 g, .int .i64 f, .bool t, .int .i64 a, .string ho, .string ap, .string pr, .string id, .slice la da.length ca, .string tx]] W fun r w' => ∃ S, PrintS ⟨g, f, t, a, ho, ap, pr, id, da, tx⟩ S ∧ r = .returned (.tuple #[.string S, .int .i64 R]) ∧ Below W.heap.size W w') := Lib.hid fun W hW => by
    rw [← hR]; exact refPrint_any ⟨g, f, t, a, ho, ap, pr, id, da, tx⟩ (.slice la da.length ca) W (hx.below hW) lx tx1
  have C13 : Hid (∀ W, Below w.heap.size w W → Calls Tryz.prog 13 #[.agg #[.int .i64 g, .int .i64 f, .bool t, .int .i64 a, .string ho, .string ap, .string pr, .string id, .slice la da.length ca, .string tx], .string id', .string nm] W fun e w' => e = .returned (.tuple #[.string gv, .bool gb]) ∧ Below W.heap.size W w') := Lib.hid fun W hW => by
    have h := get_any (g := g) (f := f) (a := a) (t := t) (ho := ho) (ap := ap) (pr := pr) (eid := id) (tx := tx) da la ca id' nm W (hx.below hW).data hx.fits
    rw [hG] at h; exact h
  have C14 : Hid (∀ W, Below w.heap.size w W → Calls Tryz.prog 14 #[.agg #[.int .i64 g, .int .i64 f, .bool t, .int .i64 a, .string ho, .string ap, .string pr, .string id, .slice la da.length ca, .string tx], .string id', .string nm] W fun e w' => e = .returned (.tuple #[.string gv, .bool gb]) ∧ Below W.heap.size W w') := Lib.hid fun W hW => by
    have h := refGet_any (g := g) (f := f) (a := a) (t := t) (ho := ho) (ap := ap) (pr := pr) (eid := id) (tx := tx) da la ca id' nm W (hx.below hW).data hx.fits
    rw [hG] at h; exact h
  have C15 : Hid (∀ W, (fun W => Below w.heap.size w W ∧ TenAt (w.heap.size + 1) g f t a ho ap pr id (.slice la da.length ca) tx W ∧ TenAt (w.heap.size + 1 + 1) g' f' t' a' ho' ap' pr' jd (.slice lb db.length cb) tx' W) W → Calls Tryz.prog 15 #[.agg #[.int .i64 g, .int .i64 f, .bool t, .int .i64 a, .string ho, .string ap, .string pr, .string id, .slice la da.length ca, .string tx]] W fun e w' => e = .returned (.int .i64 R) ∧ Below W.heap.size W w') := Lib.hid fun W hW => by
    rw [← hR]; exact right_any ⟨g, f, t, a, ho, ap, pr, id, da, tx⟩ (.slice la da.length ca) W (hS.below hW.1) (hx.below hW.1)
  have C16 : Hid (∀ W, (fun W => Below w.heap.size w W ∧ TenAt (w.heap.size + 1) g f t a ho ap pr id (.slice la da.length ca) tx W ∧ TenAt (w.heap.size + 1 + 1) g' f' t' a' ho' ap' pr' jd (.slice lb db.length cb) tx' W) W → Calls Tryz.prog 16 #[.agg #[.int .i64 g, .int .i64 f, .bool t, .int .i64 a, .string ho, .string ap, .string pr, .string id, .slice la da.length ca, .string tx]] W fun e w' => e = .returned (.int .i64 R) ∧ Below W.heap.size W w') := Lib.hid fun W hW => by
    rw [← hR]; exact refRight_any ⟨g, f, t, a, ho, ap, pr, id, da, tx⟩ (.slice la da.length ca) W (hx.below hW.1)
  have C17 : Hid (∀ W, Calls Tryz.prog 17 #[.string s] W fun e w' => e = .returned (.string V) ∧ Below W.heap.size W w') := Lib.hid fun W => by
    rw [← hV]; exact value_any s W (by omega)
  have C18 : Hid (∀ W, Calls Tryz.prog 18 #[.string s] W fun e w' => e = .returned (.string V) ∧ Below W.heap.size W w') := Lib.hid fun W => by
    rw [← hV]; exact refValue_any s W hs
  have C19 : Hid (∀ W, Calls Tryz.prog 19 #[.string s, .int .i64 most] W fun e w' => e = .returned (.bool P) ∧ w' = W) := Lib.hid fun W => by
    rw [← hPl]; exact plain_any s most W (by omega)
  have C20 : Hid (∀ W, Calls Tryz.prog 20 #[.string s, .int .i64 most] W fun e w' => e = .returned (.bool P) ∧ w' = W) := Lib.hid fun W => by
    rw [← hPl]; exact refPlain_any s most W (by omega)
  have C21 : Hid (∀ W, (fun W => Below w.heap.size w W ∧ TenAt (w.heap.size + 1) g f t a ho ap pr id (.slice la da.length ca) tx W ∧ TenAt (w.heap.size + 1 + 1) g' f' t' a' ho' ap' pr' jd (.slice lb db.length cb) tx' W) W → Calls Tryz.prog 21 #[.agg #[.int .i64 g, .int .i64 f, .bool t, .int .i64 a, .string ho, .string ap, .string pr, .string id, .slice la da.length ca, .string tx], .agg #[.int .i64 g', .int .i64 f', .bool t', .int .i64 a', .string ho', .string ap', .string pr', .string jd, .slice lb db.length cb, .string tx']] W fun e w' => e = .returned (.bool B) ∧ Below W.heap.size W w') := Lib.hid fun W hW =>
    (sameP_any ⟨g, f, t, a, ho, ap, pr, id, da, tx⟩ ⟨g', f', t', a', ho', ap', pr', jd, db, tx'⟩ _ _ W (hx.below hW.1).data (hy.below hW.1).data hx.fits).mono fun e w' ⟨b, h1, h2, h3⟩ => ⟨by rw [← same_bool h2 hB]; exact h1, h3⟩
  have C22 : Hid (∀ W, (fun W => Below w.heap.size w W ∧ TenAt (w.heap.size + 1) g f t a ho ap pr id (.slice la da.length ca) tx W ∧ TenAt (w.heap.size + 1 + 1) g' f' t' a' ho' ap' pr' jd (.slice lb db.length cb) tx' W) W → Calls Tryz.prog 22 #[.agg #[.int .i64 g, .int .i64 f, .bool t, .int .i64 a, .string ho, .string ap, .string pr, .string id, .slice la da.length ca, .string tx], .agg #[.int .i64 g', .int .i64 f', .bool t', .int .i64 a', .string ho', .string ap', .string pr', .string jd, .slice lb db.length cb, .string tx']] W fun e w' => e = .returned (.bool B) ∧ Below W.heap.size W w') := Lib.hid fun W hW =>
    (same_any ⟨g, f, t, a, ho, ap, pr, id, da, tx⟩ ⟨g', f', t', a', ho', ap', pr', jd, db, tx'⟩ _ _ W (hx.below hW.1).data (hy.below hW.1).data hx.fits).mono fun e w' ⟨b, h1, h2, h3⟩ => ⟨by rw [← same_bool h2 hB]; exact h1, h3⟩
  have HSH := Lib.hid (shown_any W3 (hS.below B3) (hm.below B3))
  have HF3 := Lib.hid F3
  have HB3 := Lib.hid B3
  have HE3 := Lib.hid E3
  have HW3 := Lib.hid hW3
  clear hS hm hP hx hy lx tx1 hs hR hV hPl hG hB F3 B3 E3 hW3
  go_enter Tryz.func3, Tryz.ntmps3
  go_wp2_with fail
  rw [HW3.out]
  refine HSH.out.mono ?_
  rintro r w4 ⟨rfl, hb4⟩
  have HB4 := Lib.hid (HB3.out.trans (hb4.mono HB3.out.size))
  have HF4 := Lib.hid (ten_below HF3.out hb4)
  have HE4 := Lib.hid (ten_below HE3.out hb4)
  obtain ⟨zA, a0, a1, a2, a3, a4, a5, a6, a7, a8, a9⟩ := ten_below HE3.out hb4
  clear hb4 HSH
  go_wp2_with fail
  refine (C11.out _ HB4.out).mono ?_
  rintro r w5 ⟨S1, ps1, rfl, hb5⟩
  have HB5 := Lib.hid (HB4.out.trans (hb5.mono HB4.out.size))
  have HF5 := Lib.hid (ten_below HF4.out hb5)
  have HE5 := Lib.hid (ten_below HE4.out hb5)
  have HPS := Lib.hid ps1
  clear a0 a1 a2 a3 a4 a5 a6 a7 a8 a9 zA ps1
  obtain ⟨zA, a0, a1, a2, a3, a4, a5, a6, a7, a8, a9⟩ := ten_below HE4.out hb5
  clear hb5 C11
  go_wp2_with fail
  refine (C12.out _ HB5.out).mono ?_
  rintro r w6 ⟨S2, ps2, rfl, hb6⟩
  have hss : S2 = S1 := printS_one ps2 HPS.out
  subst hss
  have HB6 := Lib.hid (HB5.out.trans (hb6.mono HB5.out.size))
  have HF6 := Lib.hid (ten_below HF5.out hb6)
  have HE6 := Lib.hid (ten_below HE5.out hb6)
  clear a0 a1 a2 a3 a4 a5 a6 a7 a8 a9 zA ps2
  obtain ⟨zA, a0, a1, a2, a3, a4, a5, a6, a7, a8, a9⟩ := ten_below HE5.out hb6
  clear hb6 C12
  go_wp2_with fail
  refine (C13.out _ HB6.out).mono ?_
  rintro r w7 ⟨rfl, hb7⟩
  have HB7 := Lib.hid (HB6.out.trans (hb7.mono HB6.out.size))
  have HF7 := Lib.hid (ten_below HF6.out hb7)
  have HE7 := Lib.hid (ten_below HE6.out hb7)
  clear a0 a1 a2 a3 a4 a5 a6 a7 a8 a9 zA
  obtain ⟨zA, a0, a1, a2, a3, a4, a5, a6, a7, a8, a9⟩ := ten_below HE6.out hb7
  clear hb7 C13
  go_wp2_with fail
  refine (C14.out _ HB7.out).mono ?_
  rintro r w8 ⟨rfl, hb8⟩
  have HB8 := HB7.out.trans (hb8.mono HB7.out.size)
  have HF8 := ten_below HF7.out hb8
  have HE8 := ten_below HE7.out hb8
  clear a0 a1 a2 a3 a4 a5 a6 a7 a8 a9 zA
  have H8 := Lib.hid (show (fun W => Below w.heap.size w W ∧ TenAt (w.heap.size + 1) g f t a ho ap pr id (.slice la da.length ca) tx W ∧ TenAt (w.heap.size + 1 + 1) g' f' t' a' ho' ap' pr' jd (.slice lb db.length cb) tx' W) w8 from ⟨HB8, HE8, HF8⟩)
  clear hb8 C14 HB8 HF8 HE8
  have next : ∀ W W', (fun W => Below w.heap.size w W ∧ TenAt (w.heap.size + 1) g f t a ho ap pr id (.slice la da.length ca) tx W ∧ TenAt (w.heap.size + 1 + 1) g' f' t' a' ho' ap' pr' jd (.slice lb db.length cb) tx' W) W → Below W.heap.size W W' → (fun W => Below w.heap.size w W ∧ TenAt (w.heap.size + 1) g f t a ho ap pr id (.slice la da.length ca) tx W ∧ TenAt (w.heap.size + 1 + 1) g' f' t' a' ho' ap' pr' jd (.slice lb db.length cb) tx' W) W' := fun W W' h hb => ⟨h.1.trans (hb.mono h.1.size), ten_below h.2.1 hb, ten_below h.2.2 hb⟩
  have NX := Lib.hid next
  have H8d := Lib.hid (next _ _ H8.out (drewN_b w8 1))
  clear next
  have qR : (R == R) = true := beq_self_eq_true R
  have qS := toList_same S2
  have qV := toList_same V
  have qG := toList_same gv
  have qP : (P == P) = true := beq_self_eq_true P
  have qg : (gb == gb) = true := beq_self_eq_true gb
  have qB : (B == B) = true := beq_self_eq_true B
  go_wp2_with fail
  go_region_held3 (fun W => Below w.heap.size w W ∧ TenAt (w.heap.size + 1) g f t a ho ap pr id (.slice la da.length ca) tx W ∧ TenAt (w.heap.size + 1 + 1) g' f' t' a' ho' ap' pr' jd (.slice lb db.length cb) tx' W)
    (first
      | assumption
      | exact NX.out _ _ (by assumption) (by assumption)
      | exact H8d.out
      | exact H8.out)
    (first
      | (go_at_call 15; (with_reducible refine (C15.out _ (by assumption)).mono ?_); rintro e w' ⟨rfl, hbx⟩)
      | (go_at_call 16; (with_reducible refine (C16.out _ (by assumption)).mono ?_); rintro e w' ⟨rfl, hbx⟩)
      | (go_at_call 17; (with_reducible refine (C17.out _).mono ?_); rintro e w' ⟨rfl, hbx⟩)
      | (go_at_call 18; (with_reducible refine (C18.out _).mono ?_); rintro e w' ⟨rfl, hbx⟩)
      | (go_at_call 19; (with_reducible refine (C19.out _).mono ?_); rintro e w' ⟨rfl, rfl⟩)
      | (go_at_call 20; (with_reducible refine (C20.out _).mono ?_); rintro e w' ⟨rfl, rfl⟩)
      | (go_at_call 21; (with_reducible refine (C21.out _ (by assumption)).mono ?_); rintro e w' ⟨rfl, hbx⟩)
      | (go_at_call 22; (with_reducible refine (C22.out _ (by assumption)).mono ?_); rintro e w' ⟨rfl, hbx⟩))
  go_wp2
  go_ret
  rename_i hfin
  exact ⟨rfl, hfin.1⟩
end Go.Proofs.YtnaijahhogndjaaGreatDoor.syslTells
/- The listed variables out of the condition: the tables stand. A heap in which they lie so meets it. -/
namespace Go.Proofs.YtnaijahhogndjaaGreatDoor
open Go.Joins Go.Deep Go.ChangeShapes Go.WideShapes Go.ChangeAt Go.RowKit Go.Lib

def laid8 : List (String × DataW Unit) := [("math/bits.deBruijn32tab", Rows.laid_math_bits_deBruijn32tab), ("math/bits.deBruijn64tab", Rows.laid_math_bits_deBruijn64tab), ("internal/strconv.uint64pow10", Rows.laid_internal_strconv_uint64pow10), ("unicode/utf8.acceptRanges", Rows.laid_unicode_utf8_acceptRanges), ("strconv.ErrRange", Rows.laid_strconv_ErrRange), ("strconv.ErrSyntax", Rows.laid_strconv_ErrSyntax), ("tabulary/cal.lengths", Rows.laid_tabulary_cal_lengths), ("unicode/utf8.first", Rows.laid_unicode_utf8_first)]
theorem own : ownKnob Tryz.prog.godebug = none := by kernel_rfl
theorem laidOut : laidOutB Tryz.prog = true := by kernel_rfl
theorem gLen : Tryz.prog.globalNamed "tabulary/cal.lengths" = some 4 := by kernel_rfl
theorem plain8 {W : World} (h : laidMetH Tryz.prog laid8 W) : laidMet Tryz.prog laid8 W := by
  rw [MakeChecks.laidMetH_plain _ _ _ (by kernel_rfl)] at h
  exact h
theorem accept_eq : (Rows.laid_unicode_utf8_acceptRanges : DataW Unit) = acceptData := by kernel_rfl
theorem first_eq : (Rows.laid_unicode_utf8_first : DataW Unit) = firstData := Pinned.utf8First_eq
theorem utf8_of_laid {W : World} (h : laidMet Tryz.prog laid8 W) : Lib.Utf8Tabs 0 1 W :=
  utf8Tabs_of_readsT (U8Types.of196 Tryz.lays196) ⟨by kernel_rfl, by kernel_rfl, by kernel_rfl, by kernel_rfl, by kernel_rfl, by kernel_rfl, by kernel_rfl⟩
    (first_eq ▸ Lib.laidMet.reads h (.tail _ (.tail _ (.tail _ (.tail _ (.tail _ (.tail _ (.tail _ (.head _))))))))) (accept_eq ▸ Lib.laidMet.reads h (.tail _ (.tail _ (.tail _ (.head _)))))
theorem met8 (os : Os) (args : Array Value) : laidMetH Tryz.prog laid8 ((World.laidAll Tryz.prog os laid8).forCall (fun _ _ => 0) ⟨#[], args, []⟩).memory := by
  rw [MakeChecks.laidMetH_plain _ _ _ (by kernel_rfl)]
  exact laidMet_laidAll _ (by kernel_rfl) (by kernel_rfl)
theorem tLen : (Tryz.prog.globals[4]?).map (·.type) = some 179 := by kernel_rfl
theorem cells179 : Tryz.prog.cellsOf 179 = 12 := by kernel_rfl
theorem tab_of_is {W : World} (h : Lib.TabIs Tryz.prog W "tabulary/cal.lengths" .i64 Cal.lens) : Cal.Tab W := by
  have hc : ∀ i : Nat, i < 12 → W.cell? ⟨4, i, none⟩ = some (.int .i64 (Cal.lens.getD i 0)) := fun i hi => h.cell gLen i hi
  exact ⟨World.block_lt_of_cell? W _ (hc 0 (by omega)), hc⟩
theorem std_of_laid {W : World} (h0 : laidMetH Tryz.prog laid8 W) : Std W := by
  have h := plain8 h0
  have h6 : laidMet Tryz.prog [("tabulary/cal.lengths", Rows.laid_tabulary_cal_lengths), ("unicode/utf8.first", Rows.laid_unicode_utf8_first)] W :=
    laidMet.tail (laidMet.tail (laidMet.tail (laidMet.tail (laidMet.tail (laidMet.tail h)))))
  exact ⟨tab_of_is (Lib.tabIs_of_head gLen tLen Tryz.underlying179 Tryz.underlying3 cells3 cells179 h6), utf8_of_laid h⟩
theorem max_of_shape {W : World} (h : W.ShapedOpen Tryz.prog) : Max W := by
  obtain ⟨m, hm⟩ := Tryz.laysM145.s1_3 W h
  exact ⟨World.block_lt_of_cell? W _ hm, m, hm⟩
/-- From a contract that may lean on the listed variables and on the world's shape. -/
theorem handed_both {H : Type} {enc : TypeId × Value → H} {a : Assume} {C : Checked} {os : Os} {f : FuncId} {fn : Func} {s : ChangeSpec} {conds : List PathCond} {apart fresh handsOn again : Bool} {X : World → Array Value → Prop}
    (hX : ∀ (w w' : World) (args : Array Value), w.heap = w'.heap → X w args → X w' args)
    (own : ownKnob C.prog.godebug = none) (started : os.Started) (noInit : C.prog.inits.idxOf? f = none) (hfn : C.prog.funcs[f]? = some fn)
    (witness : ∃ (w : World) (tape : Tape) (i : Input), w.os = os ∧ (w.forCall tape i).Shaped C.prog ∧ i.vars = [] ∧ Input.okWide C.prog (w.forCall tape i) .any w.heap.size f i ∧
      ((s.pre enc C.prog fn conds apart (w.forCall tape i).memory i.args ∧ X (w.forCall tape i).memory i.args) ∧ sizedMet enc C.prog fn (OpenSpec.ofChange s) apart (w.forCall tape i).memory i.args) ∧ a.holds C.prog (lone (Frame.enter C.prog f i.args .normal) [] (w.forCall tape i)))
    (contract : ∀ (W : World) (base : Nat) (args : Array Value) (ds gs : List (DataW H)) (before : List MemPlace),
      (∀ (j : Nat) t v, fn.params[j]? = some t → args[j]? = some v → Value.okWide C.prog W .any base t v) →
      DataW.Whole enc C.prog fn.params.toList s.vars apart W args.toList ds gs before →
      (DataW.weightsEach C.prog (fn.params.toList ++ s.plain.varTypes C.prog) (ds ++ gs)).all (· ≤ reachBytes) = true → X W args → W.ShapedOpen C.prog →
      Calls C.prog f args W fun e W' => ∃ v, e = .returned v ∧ s.post enc C.prog fn apart fresh handsOn again W args v W') :
    ReturnsInHanded a C os f .any (fun w args => (s.pre enc C.prog fn conds apart w args ∧ X w args) ∧ sizedMet enc C.prog fn (OpenSpec.ofChange s) apart w args) (s.post enc C.prog fn apart fresh handsOn again) := by
  refine returnsInHanded_of_calls own started noInit witness ?_
  intro w tape i _ hsh _ hok hpre _
  obtain ⟨_, _, _, fn', hfn', _, _, _, _, hval⟩ := hok
  have e : fn' = fn := Option.some.inj (hfn'.symm.trans hfn)
  subst e
  obtain ⟨⟨⟨ds, gs, before, hw, hc⟩, hx⟩, hz⟩ := hpre
  have hw' := DataW.Whole.of_heap (w' := w.forCall tape i) (by rfl) hw
  refine (contract (w.forCall tape i) w.heap.size i.args ds gs before hval hw' (hz.weights hw) (hX _ _ _ (by rfl) hx) hsh).mono fun e W' ⟨v, he, hp⟩ => ?_
  subst he
  exact ChangeSpec.post_blind hp
end Go.Proofs.YtnaijahhogndjaaGreatDoor
