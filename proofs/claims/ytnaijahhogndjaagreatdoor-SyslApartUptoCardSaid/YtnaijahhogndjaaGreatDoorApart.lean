/- The walk of SyslApart: two right events have one text just if they are the same. -/
import Derived.Test.YtnaijahhogndjaaGreatDoorPrintLists
import Derived.Test.YtnaijahhogndjaaGreatDoorSameAny
import Derived.Test.YtnaijahhogndjaaGreatDoorShown
namespace Go.Proofs.YtnaijahhogndjaaGreatDoor.syslApart
open Go.ChangeShapes Go.WideShapes Go.ChangeAt Go.RowKit

theorem time_unique {td : Bool} {a : Int} {T T' : List UInt8} (h : TimeIs td a T) (h' : TimeIs td a T') : T = T' := by
  rcases h with ⟨e, rfl⟩ | ⟨e, y, m, d, hh, i, s, k, hD, rfl⟩
  · rcases h' with ⟨_, rfl⟩ | ⟨e', _⟩
    · rfl
    · rw [e] at e'; cases e'
  · rcases h' with ⟨e', _⟩ | ⟨_, y', m', d', hh', i', s', k', hD', rfl⟩
    · rw [e] at e'; cases e'
    · obtain ⟨r1, n1⟩ := hD
      obtain ⟨r2, n2⟩ := hD'
      obtain ⟨rfl, rfl, rfl, rfl, rfl, rfl, rfl⟩ := Cal.nanos_inj r1 r2 (n1.trans n2.symm)
      rfl
/-- Print's answer, at one stroke. -/
theorem print_one {e : Ev} {w : World} {r : Ending} {w' : World} (h : PrintAns e w r w') : ∃ S, r = .returned (.tuple #[.string S, .int .i64 (rightE e)]) ∧ (rightE e = 0 → ∃ T, TimeIs e.timed e.at' T ∧ S = bytes (printT e.grave e.from' T e.host e.app e.proc e.id e.data e.text)) ∧ Below w.heap.size w w' := by
  obtain ⟨h1 | h1, h2⟩ := h
  · exact ⟨_, h1.2, fun h0 => absurd h0 h1.1, h2⟩
  · obtain ⟨h0, T, hT, hr⟩ := h1
    exact ⟨_, by rw [h0]; exact hr, fun _ => ⟨T, hT, rfl⟩, h2⟩
/-- Ten cells of a block hold an event. -/
abbrev TenAt (b : Nat) (g f : Int) (t : Bool) (a : Int) (ho ap pr id : ByteArray) (dv : Value) (tx : ByteArray) (W : World) : Prop :=
  b < W.heap.size ∧ W.cell? ⟨b, 0, none⟩ = some (.int .i64 g) ∧ W.cell? ⟨b, 1, none⟩ = some (.int .i64 f) ∧ W.cell? ⟨b, 2, none⟩ = some (.bool t) ∧ W.cell? ⟨b, 3, none⟩ = some (.int .i64 a) ∧ W.cell? ⟨b, 4, none⟩ = some (.string ho) ∧ W.cell? ⟨b, 5, none⟩ = some (.string ap) ∧ W.cell? ⟨b, 6, none⟩ = some (.string pr) ∧ W.cell? ⟨b, 7, none⟩ = some (.string id) ∧ W.cell? ⟨b, 8, none⟩ = some dv ∧ W.cell? ⟨b, 9, none⟩ = some (.string tx)
theorem ten_below {b : Nat} {g f : Int} {t : Bool} {a : Int} {ho ap pr id : ByteArray} {dv : Value} {tx : ByteArray} {W W' : World} (h : TenAt b g f t a ho ap pr id dv tx W) (hb : Below W.heap.size W W') : TenAt b g f t a ho ap pr id dv tx W' := by
  obtain ⟨hl, h0, h1, h2, h3, h4, h5, h6, h7, h8, h9⟩ := h
  have hc := (bcell hb).1
  exact ⟨Nat.lt_of_lt_of_le hl hb.size, (hc _ _ hl).trans h0, (hc _ _ hl).trans h1, (hc _ _ hl).trans h2, (hc _ _ hl).trans h3, (hc _ _ hl).trans h4, (hc _ _ hl).trans h5, (hc _ _ hl).trans h6, (hc _ _ hl).trans h7, (hc _ _ hl).trans h8, (hc _ _ hl).trans h9⟩
set_option maxHeartbeats 8000000 in
set_option maxRecDepth 100000 in
theorem walk (x y : Ev) (va vb : Value) (w : World) (hS : Std w) (hm : Max w) (hP : Cal.Pow w) (hx : x.In w va) (hy : y.In w vb) (lx : (elmsT x.data).length ≤ 35184372088832) (ly : (elmsT y.data).length ≤ 35184372088832) (tx1 : x.text.size ≤ 70368744177664) (ty1 : y.text.size ≤ 70368744177664) :
    Calls Tryz.prog 8 #[x.val va, y.val vb] w fun e w' => e = .returned (.bool true) ∧ Below w.heap.size w w' := by
  obtain ⟨la, ca, rfl⟩ := hx.data.shape
  obtain ⟨lb, cb, rfl⟩ := hy.data.shape
  obtain ⟨g, f, t, a, ho, ap, pr, id, da, tx⟩ := x
  obtain ⟨g', f', t', a', ho', ap', pr', id', db, tx'⟩ := y
  have hb0 : Below w.heap.size w ((w.alloc (.cells #[.int .i64 g, .int .i64 f, .bool t, .int .i64 a, .string ho, .string ap, .string pr, .string id, .slice la da.length ca, .string tx] 24)).alloc (.cells #[.int .i64 g', .int .i64 f', .bool t', .int .i64 a', .string ho', .string ap', .string pr', .string id', .slice lb db.length cb, .string tx'] 24)) := ((Below.refl _ _).alloc (Nat.le_refl _) _).alloc (by simp) _
  have hA0 : TenAt w.heap.size g f t a ho ap pr id (.slice la da.length ca) tx ((w.alloc (.cells #[.int .i64 g, .int .i64 f, .bool t, .int .i64 a, .string ho, .string ap, .string pr, .string id, .slice la da.length ca, .string tx] 24)).alloc (.cells #[.int .i64 g', .int .i64 f', .bool t', .int .i64 a', .string ho', .string ap', .string pr', .string id', .slice lb db.length cb, .string tx'] 24)) := by
    refine ⟨by simp; omega, ?_, ?_, ?_, ?_, ?_, ?_, ?_, ?_, ?_, ?_⟩ <;> simp [go_sem]
  have hB0 : TenAt (w.heap.size + 1) g' f' t' a' ho' ap' pr' id' (.slice lb db.length cb) tx' ((w.alloc (.cells #[.int .i64 g, .int .i64 f, .bool t, .int .i64 a, .string ho, .string ap, .string pr, .string id, .slice la da.length ca, .string tx] 24)).alloc (.cells #[.int .i64 g', .int .i64 f', .bool t', .int .i64 a', .string ho', .string ap', .string pr', .string id', .slice lb db.length cb, .string tx'] 24)) := by
    refine ⟨by simp, ?_, ?_, ?_, ?_, ?_, ?_, ?_, ?_, ?_, ?_⟩ <;> simp [go_sem]
  go_enter Tryz.func8, Tryz.ntmps8
  go_wp2_with fail
  refine (shown_any _ (hS.below hb0) (hm.below hb0)).mono ?_
  rintro r w2 ⟨rfl, hb2⟩
  have B2 := hb0.trans (hb2.mono hb0.size)
  have hA2 := ten_below hA0 hb2
  have hB2 := ten_below hB0 hb2
  have HP1 := Lib.hid (print_any ⟨g, f, t, a, ho, ap, pr, id, da, tx⟩ (.slice la da.length ca) w2 (hS.below B2) (hP.below B2) (hx.below B2) lx tx1)
  clear hA0 hB0 hb0 hb2
  obtain ⟨zA, a0, a1, a2, a3, a4, a5, a6, a7, a8, a9⟩ := hA2
  go_wp2_with fail
  refine HP1.out.mono ?_
  intro r w3 hans0
  obtain ⟨S1, rfl, hS1, hb3⟩ := print_one hans0
  have B3 := B2.trans (hb3.mono B2.size)
  have hA3 : TenAt w.heap.size g f t a ho ap pr id (.slice la da.length ca) tx w3 := ten_below ⟨zA, a0, a1, a2, a3, a4, a5, a6, a7, a8, a9⟩ hb3
  have hB3 := ten_below hB2 hb3
  have HP2 := Lib.hid (print_any ⟨g', f', t', a', ho', ap', pr', id', db, tx'⟩ (.slice lb db.length cb) w3 (hS.below B3) (hP.below B3) (hy.below B3) ly ty1)
  clear hb3 a0 a1 a2 a3 a4 a5 a6 a7 a8 a9 hB2 zA B2 HP1
  obtain ⟨zB, j0, j1, j2, j3, j4, j5, j6, j7, j8, j9⟩ := hB3
  have HA3 := Lib.hid hA3
  have HS1 := Lib.hid hS1
  obtain ⟨RA, hRA⟩ : ∃ R, rightE ⟨g, f, t, a, ho, ap, pr, id, da, tx⟩ = R := ⟨_, rfl⟩
  rw [hRA] at HS1 ⊢
  have HRA := Lib.hid hRA
  clear hA3 hS1 hans0 hRA
  go_wp2_with fail
  refine HP2.out.mono ?_
  intro r w4 hans0
  obtain ⟨S2, rfl, hS2, hb4⟩ := print_one hans0
  have B4 := B3.trans (hb4.mono B3.size)
  obtain ⟨zA, a0, a1, a2, a3, a4, a5, a6, a7, a8, a9⟩ := ten_below HA3.out hb4
  obtain ⟨zB', i0, i1, i2, i3, i4, i5, i6, i7, i8, i9⟩ := ten_below ⟨zB, j0, j1, j2, j3, j4, j5, j6, j7, j8, j9⟩ hb4
  have HS2 := Lib.hid hS2
  obtain ⟨RB, hRB⟩ : ∃ R, rightE ⟨g', f', t', a', ho', ap', pr', id', db, tx'⟩ = R := ⟨_, rfl⟩
  rw [hRB] at HS2 ⊢
  have HRB := Lib.hid hRB
  have HSM := Lib.hid (same_any ⟨g, f, t, a, ho, ap, pr, id, da, tx⟩ ⟨g', f', t', a', ho', ap', pr', id', db, tx'⟩ (.slice la da.length ca) (.slice lb db.length cb) w4 (hx.below B4).data (hy.below B4).data (hx.below B4).fits)
  clear hS2 hans0 hRB hb4 j0 j1 j2 j3 j4 j5 j6 j7 j8 j9 zB HA3 HP2 B3 hx hy hS hm hP lx ly tx1 ty1
  go_wp2_with fail
  refine HSM.out.mono ?_
  rintro r w5 ⟨b, rfl, hb, hb5⟩
  have B5 := B4.trans (hb5.mono B4.size)
  clear hb5 B4 a0 a1 a2 a3 a4 a5 a6 a7 a8 a9 i0 i1 i2 i3 i4 i5 i6 i7 i8 i9 zA zB' HSM
  by_cases hA : RA = 0
  case neg =>
    have q : (RA != 0) = true := by rw [bne, beq_eq_false_iff_ne.2 hA]; rfl
    clear hA hb
    go_wp2
    go_ret
    exact ⟨rfl, B5⟩
  subst hA
  by_cases hB : RB = 0
  case neg =>
    have q : (RB != 0) = true := by rw [bne, beq_eq_false_iff_ne.2 hB]; rfl
    clear hB hb
    go_wp2
    go_ret
    exact ⟨rfl, B5⟩
  subst hB
  obtain ⟨T1, t1, e1⟩ := HS1.out rfl
  obtain ⟨T2, t2, e2⟩ := HS2.out rfl
  have hq : (S1.toList == S2.toList) = b := by
    rw [eq_text, Bool.eq_iff_iff, decide_eq_true_iff, hb, e1, e2]
    constructor
    · intro h
      have h' := congrArg (fun s : ByteArray => s.data.toList) h
      exact print_inj HRA.out HRB.out t1 t2 h'
    · intro h
      cases h
      rw [time_unique t1 t2]
  have hbb : (b == b) = true := beq_self_eq_true b
  clear hb e1 e2 t1 t2
  cases b with
  | false =>
    go_wp2
    go_ret
    exact ⟨rfl, B5⟩
  | true =>
    go_wp2
    go_ret
    exact ⟨rfl, B5⟩
end Go.Proofs.YtnaijahhogndjaaGreatDoor.syslApart
