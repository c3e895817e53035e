/- The texts Back, Frame, one behind the other. -/
import Derived.Test.YtnaijahhogndjaaGreatDoorB21
import Derived.Test.YtnaijahhogndjaaGreatDoorB22
/- The walk of SyslBack: what is printed is parsed as it was; what is parsed is right, and printed anew it is parsed as that. -/
namespace Go.Proofs.YtnaijahhogndjaaGreatDoor.syslBack
open Go.ChangeShapes Go.WideShapes Go.ChangeAt Go.RowKit

/-- Ten cells of a block hold an event. -/
abbrev TenAt (b : Nat) (g f : Int) (t : Bool) (a : Int) (ho ap pr id : ByteArray) (dv : Value) (tx : ByteArray) (W : World) : Prop :=
  b < W.heap.size ∧ W.cell? ⟨b, 0, none⟩ = some (.int .i64 g) ∧ W.cell? ⟨b, 1, none⟩ = some (.int .i64 f) ∧ W.cell? ⟨b, 2, none⟩ = some (.bool t) ∧ W.cell? ⟨b, 3, none⟩ = some (.int .i64 a) ∧ W.cell? ⟨b, 4, none⟩ = some (.string ho) ∧ W.cell? ⟨b, 5, none⟩ = some (.string ap) ∧ W.cell? ⟨b, 6, none⟩ = some (.string pr) ∧ W.cell? ⟨b, 7, none⟩ = some (.string id) ∧ W.cell? ⟨b, 8, none⟩ = some dv ∧ W.cell? ⟨b, 9, none⟩ = some (.string tx)
theorem ten_below {b : Nat} {g f : Int} {t : Bool} {a : Int} {ho ap pr id : ByteArray} {dv : Value} {tx : ByteArray} {W W' : World} (h : TenAt b g f t a ho ap pr id dv tx W) (hb : Below W.heap.size W W') : TenAt b g f t a ho ap pr id dv tx W' := by
  obtain ⟨hl, h0, h1, h2, h3, h4, h5, h6, h7, h8, h9⟩ := h
  have hc := (bcell hb).1
  exact ⟨Nat.lt_of_lt_of_le hl hb.size, (hc _ _ hl).trans h0, (hc _ _ hl).trans h1, (hc _ _ hl).trans h2, (hc _ _ hl).trans h3, (hc _ _ hl).trans h4, (hc _ _ hl).trans h5, (hc _ _ hl).trans h6, (hc _ _ hl).trans h7, (hc _ _ hl).trans h8, (hc _ _ hl).trans h9⟩
set_option maxHeartbeats 16000000 in
set_option maxRecDepth 100000 in
theorem walk (x : Ev) (va : Value) (s : ByteArray) (w : World) (hS0 : Std w) (hm0 : Max w) (hP0 : Cal.Pow w) (hE0 : Errs w) (hx : x.In w va) (lx : (elmsT x.data).length ≤ 2097152) (tx1 : x.text.size ≤ 1048576) (hs : s.size ≤ 1048576) :
    Calls Tryz.prog 5 #[x.val va, .string s] w fun e w' => e = .returned (.bool true) ∧ Below w.heap.size w w' := by
  obtain ⟨la, ca, rfl⟩ := hx.data.shape
  obtain ⟨g, f, t, a, ho, ap, pr, id, da, tx⟩ := x
  simp only at lx tx1
  have hb0 : Below w.heap.size w (w.alloc (.cells #[.int .i64 g, .int .i64 f, .bool t, .int .i64 a, .string ho, .string ap, .string pr, .string id, .slice la da.length ca, .string tx] 24)) := (Below.refl _ _).alloc (Nat.le_refl _) _
  have hE0t : TenAt w.heap.size g f t a ho ap pr id (.slice la da.length ca) tx (w.alloc (.cells #[.int .i64 g, .int .i64 f, .bool t, .int .i64 a, .string ho, .string ap, .string pr, .string id, .slice la da.length ca, .string tx] 24)) := by
    refine ⟨by simp, ?_, ?_, ?_, ?_, ?_, ?_, ?_, ?_, ?_, ?_⟩ <;> simp [go_sem]
  have hS := Lib.hid hS0
  have hm := Lib.hid hm0
  have hP := Lib.hid hP0
  obtain ⟨R, hR⟩ : ∃ R, rightE ⟨g, f, t, a, ho, ap, pr, id, da, tx⟩ = R := ⟨_, rfl⟩
  have C11 : Hid (∀ W, Below w.heap.size w W → Calls Tryz.prog 11 #[.agg #[.int .i64 g, .int .i64 f, .bool t, .int .i64 a, .string ho, .string ap, .string pr, .string id, .slice la da.length ca, .string tx]] W fun r w' => ∃ S, PrintS ⟨g, f, t, a, ho, ap, pr, id, da, tx⟩ S ∧ r = .returned (.tuple #[.string S, .int .i64 R]) ∧ Below W.heap.size W w') := Lib.hid fun W hW => (print_any ⟨g, f, t, a, ho, ap, pr, id, da, tx⟩ (.slice la da.length ca) W (hS0.below hW) (hP0.below hW) (hx.below hW) (by show (elmsT da).length ≤ _; omega) (by show tx.size ≤ _; omega)).mono fun r w' h => by
    obtain ⟨S, h1, h2, h3⟩ := printS_any h
    exact ⟨S, h1, by rw [← hR]; exact h2, h3⟩
  have C15 : Hid (∀ W, Below w.heap.size w W → Calls Tryz.prog 15 #[.agg #[.int .i64 g, .int .i64 f, .bool t, .int .i64 a, .string ho, .string ap, .string pr, .string id, .slice la da.length ca, .string tx]] W fun e w' => e = .returned (.int .i64 R) ∧ Below W.heap.size W w') := Lib.hid fun W hW => by
    rw [← hR]; exact right_any ⟨g, f, t, a, ho, ap, pr, id, da, tx⟩ (.slice la da.length ca) W (hS0.below hW) (hx.below hW)
  have C23 : Hid (∀ W, Below w.heap.size w W → Calls Tryz.prog 23 #[.string s] W fun e w' => BadAns W e w' ∨ FitAns s.size W e w') := Lib.hid fun W hW => by
    have h := parse_any s.data.toList W (hS0.below hW) (hm0.below hW) (hP0.below hW) (hE0.below hW) (by rw [list_size]; omega)
    rw [bytes_self, list_size] at h
    exact h
  have C23e : Hid (R = 0 → ∀ S, PrintS ⟨g, f, t, a, ho, ap, pr, id, da, tx⟩ S → ∀ W, Below w.heap.size w W → Calls Tryz.prog 23 #[.string S] W fun e w' => ∃ lk ck, e = .returned (.tuple #[.agg #[.int .i64 g, .int .i64 f, .bool t, .int .i64 a, .string ho, .string ap, .string pr, .string id, .slice lk da.length ck, .string tx], .int .i64 0]) ∧ ElmsAt w' (.slice lk da.length ck) da ∧ Below W.heap.size W w') := Lib.hid fun h0 S hPS W hW => by
    rcases hPS with ⟨k, _⟩ | ⟨_, T, hT, rfl⟩
    · exact absurd (hR.trans h0) k
    · have k := parse_printed g f a t ho ap pr id tx da T W (hS0.below hW) (hm0.below hW) (hP0.below hW) (hR.trans h0) hT (by omega) (by omega)
      unfold GoodAns at k
      simp only [bytes_self] at k
      exact k
  have C22 : Hid (∀ lk ck W, Below w.heap.size w W → ElmsAt W (.slice lk da.length ck) da → Calls Tryz.prog 22 #[.agg #[.int .i64 g, .int .i64 f, .bool t, .int .i64 a, .string ho, .string ap, .string pr, .string id, .slice lk da.length ck, .string tx], .agg #[.int .i64 g, .int .i64 f, .bool t, .int .i64 a, .string ho, .string ap, .string pr, .string id, .slice la da.length ca, .string tx]] W fun e w' => e = .returned (.bool true) ∧ Below W.heap.size W w') := Lib.hid fun lk ck W hW hK =>
    (same_any ⟨g, f, t, a, ho, ap, pr, id, da, tx⟩ ⟨g, f, t, a, ho, ap, pr, id, da, tx⟩ _ _ W hK (hx.below hW).data hx.fits).mono fun e w' ⟨b, k1, k2, k3⟩ => ⟨by rw [← k2.2 rfl]; exact k1, k3⟩
  have HSH := Lib.hid (shown_any _ (hS0.below hb0) (hm0.below hb0))
  have HB0 := Lib.hid hb0
  have HE0 := Lib.hid hE0t
  clear hS0 hm0 hP0 hE0 hx lx tx1 hR hb0 hE0t
  go_enter Tryz.func5, Tryz.ntmps5
  go_wp2_with fail
  refine HSH.out.mono ?_
  rintro r w4 ⟨rfl, hb4⟩
  have HB4 := Lib.hid (HB0.out.trans (hb4.mono HB0.out.size))
  have HE4 := Lib.hid (ten_below HE0.out hb4)
  obtain ⟨zA, a0, a1, a2, a3, a4, a5, a6, a7, a8, a9⟩ := ten_below HE0.out hb4
  clear hb4 HSH
  go_wp2_with fail
  refine (C11.out _ HB4.out).mono ?_
  rintro r w5 ⟨S1, ps1, rfl, hb5⟩
  have HB5 := Lib.hid (HB4.out.trans (hb5.mono HB4.out.size))
  have HE5 := Lib.hid (ten_below HE4.out hb5)
  clear a0 a1 a2 a3 a4 a5 a6 a7 a8 a9 zA
  clear hb5 C11
  by_cases hR0 : R = 0
  case pos =>
    subst hR0
    have C23f := Lib.hid (C23e.out rfl S1 ps1)
    clear C23e ps1
    go_wp2_with fail
    refine (C23f.out _ HB5.out).mono ?_
    rintro r w6 ⟨lk, ck, rfl, hEk, hb6⟩
    have hbK := hb6.alloc hb6.size (.cells #[.int .i64 g, .int .i64 f, .bool t, .int .i64 a, .string ho, .string ap, .string pr, .string id, .slice lk da.length ck, .string tx] 24)
    have HB6 := Lib.hid (HB5.out.trans (hbK.mono HB5.out.size))
    have HEK := Lib.hid (hEk.below ((Below.refl w6.heap.size w6).alloc (Nat.le_refl _) (.cells #[.int .i64 g, .int .i64 f, .bool t, .int .i64 a, .string ho, .string ap, .string pr, .string id, .slice lk da.length ck, .string tx] 24)))
    have hT6 := ten_below HE5.out hbK
    have HE6 := Lib.hid hT6
    obtain ⟨zA, a0, a1, a2, a3, a4, a5, a6, a7, a8, a9⟩ := hT6
    clear hEk hb6 hbK C23f
    go_wp2_with fail
    refine (C22.out _ _ _ HB6.out HEK.out).mono ?_
    rintro r w7 ⟨rfl, hb7⟩
    have HA := Lib.hid (HB6.out.trans (hb7.mono HB6.out.size))
    have HE := Lib.hid (ten_below HE6.out hb7)
    clear a0 a1 a2 a3 a4 a5 a6 a7 a8 a9 zA hb7 C22
    go_wp2_with fail
    refine (C23.out _ HA.out).mono ?_
    rintro r wB (⟨rfl, hbB⟩ | ⟨gr, fr, at', td, h1, h2, h3, h4, h5, es, ⟨lx, cx, rfl, hEx, hbB⟩, hRx, hlx, htx⟩)
    · have hbZ := hbB.alloc hbB.size (.cells #[.int .i64 0, .int .i64 0, .bool false, .int .i64 0, .string ⟨#[]⟩, .string ⟨#[]⟩, .string ⟨#[]⟩, .string ⟨#[]⟩, .slice none 0 0, .string ⟨#[]⟩] 24)
      have HBZ := Lib.hid (HA.out.trans (hbZ.mono HA.out.size))
      obtain ⟨zZ, y0, y1, y2, y3, y4, y5, y6, y7, y8, y9⟩ := ten_below HE.out hbZ
      clear hbB hbZ
      go_wp2_with fail
      refine (C15.out _ HBZ.out).mono ?_
      rintro r wC ⟨rfl, hbC⟩
      have HBC := Lib.hid (HBZ.out.trans (hbC.mono HBZ.out.size))
      clear hbC
      go_wp2
      go_ret
      exact ⟨rfl, HBC.out⟩
    · obtain ⟨hh, e1⟩ : ∃ x, bytes h1 = x := ⟨_, rfl⟩
      obtain ⟨ha, e2⟩ : ∃ x, bytes h2 = x := ⟨_, rfl⟩
      obtain ⟨hp, e3⟩ : ∃ x, bytes h3 = x := ⟨_, rfl⟩
      obtain ⟨hi, e4⟩ : ∃ x, bytes h4 = x := ⟨_, rfl⟩
      obtain ⟨hx, e5⟩ : ∃ x, bytes h5 = x := ⟨_, rfl⟩
      have z5 : hx.size ≤ s.size := by rw [← e5, bytes_size]; exact htx
      rw [e1, e2, e3, e4, e5] at hRx ⊢
      clear e1 e2 e3 e4 e5 htx
      obtain ⟨_, _, _, ⟨wo1, wo2, wo3, wo4⟩, _⟩ := right_parts hRx
      have s1 := word_len wo1 (by decide)
      have s2 := word_len wo2 (by decide)
      have s3 := word_len wo3 (by decide)
      have s4 := word_len wo4 (by decide)
      have hIx : Ev.In ⟨gr, fr, td, at', hh, ha, hp, hi, es, hx⟩ wB (.slice lx es.length cx) := ⟨hEx, fit_of_len (es := es) (by omega), by show hh.size ≤ _; omega, by show ha.size ≤ _; omega, by show hp.size ≤ _; omega, by show hi.size ≤ _; omega, by show hx.size ≤ _; omega⟩
      have HBB := Lib.hid (HA.out.trans (hbB.mono HA.out.size))
      have X11 : Hid (∀ W, Below wB.heap.size wB W → Calls Tryz.prog 11 #[.agg #[.int .i64 gr, .int .i64 fr, .bool td, .int .i64 at', .string hh, .string ha, .string hp, .string hi, .slice lx es.length cx, .string hx]] W fun r w' => ∃ S, PrintS ⟨gr, fr, td, at', hh, ha, hp, hi, es, hx⟩ S ∧ r = .returned (.tuple #[.string S, .int .i64 0]) ∧ Below W.heap.size W w') := Lib.hid fun W hW => (print_any ⟨gr, fr, td, at', hh, ha, hp, hi, es, hx⟩ (.slice lx es.length cx) W (hS.out.below (HBB.out.trans (hW.mono HBB.out.size))) (hP.out.below (HBB.out.trans (hW.mono HBB.out.size))) (hIx.below hW) (by show (elmsT es).length ≤ _; omega) (by show hx.size ≤ _; omega)).mono fun r w' hh' => by
        obtain ⟨S, k1, k2, k3⟩ := printS_any hh'
        exact ⟨S, k1, by rw [← hRx]; exact k2, k3⟩
      have X15 : Hid (∀ W, Below wB.heap.size wB W → Calls Tryz.prog 15 #[.agg #[.int .i64 gr, .int .i64 fr, .bool td, .int .i64 at', .string hh, .string ha, .string hp, .string hi, .slice lx es.length cx, .string hx]] W fun e w' => e = .returned (.int .i64 0) ∧ Below W.heap.size W w') := Lib.hid fun W hW => by
        have k := right_any ⟨gr, fr, td, at', hh, ha, hp, hi, es, hx⟩ (.slice lx es.length cx) W (hS.out.below (HBB.out.trans (hW.mono HBB.out.size))) (hIx.below hW)
        rw [hRx] at k
        exact k
      have X23 : Hid (∀ S, PrintS ⟨gr, fr, td, at', hh, ha, hp, hi, es, hx⟩ S → ∀ W, Below wB.heap.size wB W → Calls Tryz.prog 23 #[.string S] W fun e w' => ∃ ly cy, e = .returned (.tuple #[.agg #[.int .i64 gr, .int .i64 fr, .bool td, .int .i64 at', .string hh, .string ha, .string hp, .string hi, .slice ly es.length cy, .string hx], .int .i64 0]) ∧ ElmsAt w' (.slice ly es.length cy) es ∧ Below W.heap.size W w') := Lib.hid fun S hPS W hW => by
        rcases hPS with ⟨k, _⟩ | ⟨_, T, hT, rfl⟩
        · exact absurd hRx k
        · have k := parse_printed gr fr at' td hh ha hp hi hx es T W (hS.out.below (HBB.out.trans (hW.mono HBB.out.size))) (hm.out.below (HBB.out.trans (hW.mono HBB.out.size))) (hP.out.below (HBB.out.trans (hW.mono HBB.out.size))) hRx hT (by omega) (by omega)
          unfold GoodAns at k
          simp only [bytes_self] at k
          exact k
      have X22 : Hid (∀ ly cy W, Below wB.heap.size wB W → ElmsAt W (.slice ly es.length cy) es → Calls Tryz.prog 22 #[.agg #[.int .i64 gr, .int .i64 fr, .bool td, .int .i64 at', .string hh, .string ha, .string hp, .string hi, .slice lx es.length cx, .string hx], .agg #[.int .i64 gr, .int .i64 fr, .bool td, .int .i64 at', .string hh, .string ha, .string hp, .string hi, .slice ly es.length cy, .string hx]] W fun e w' => e = .returned (.bool true) ∧ Below W.heap.size W w') := Lib.hid fun ly cy W hW hY =>
        (same_any ⟨gr, fr, td, at', hh, ha, hp, hi, es, hx⟩ ⟨gr, fr, td, at', hh, ha, hp, hi, es, hx⟩ _ _ W (hIx.below hW).data hY hIx.fits).mono fun e w' ⟨b, k1, k2, k3⟩ => ⟨by rw [← k2.2 rfl]; exact k1, k3⟩
      have hb1 := (Below.refl wB.heap.size wB).alloc (Nat.le_refl _) (.cells #[.int .i64 gr, .int .i64 fr, .bool td, .int .i64 at', .string hh, .string ha, .string hp, .string hi, .slice lx es.length cx, .string hx] 24)
      have HX1 := Lib.hid hb1
      have hX1 : TenAt wB.heap.size gr fr td at' hh ha hp hi (.slice lx es.length cx) hx (wB.alloc (.cells #[.int .i64 gr, .int .i64 fr, .bool td, .int .i64 at', .string hh, .string ha, .string hp, .string hi, .slice lx es.length cx, .string hx] 24)) := by
        refine ⟨by simp, ?_, ?_, ?_, ?_, ?_, ?_, ?_, ?_, ?_, ?_⟩ <;> simp [go_sem]
      have HTX := Lib.hid hX1
      clear hEx hRx hlx z5 wo1 wo2 wo3 wo4 s1 s2 s3 s4 hIx hbB hb1 hX1
      go_wp2_with fail
      refine (X11.out _ HX1.out).mono ?_
      rintro r wC ⟨S2, ps2, rfl, hbC⟩
      have HX2 := Lib.hid (HX1.out.trans (hbC.mono HX1.out.size))
      have HTX2 := Lib.hid (ten_below HTX.out hbC)
      have X23' := Lib.hid (X23.out S2 ps2)
      clear hbC ps2 X11 X23
      go_wp2_with fail
      refine (X23'.out _ HX2.out).mono ?_
      rintro r wD ⟨ly, cy, rfl, hEy, hbD⟩
      have hbY := hbD.alloc hbD.size (.cells #[.int .i64 gr, .int .i64 fr, .bool td, .int .i64 at', .string hh, .string ha, .string hp, .string hi, .slice ly es.length cy, .string hx] 24)
      have HX3 := Lib.hid (HX2.out.trans (hbY.mono HX2.out.size))
      have HEY := Lib.hid (hEy.below ((Below.refl wD.heap.size wD).alloc (Nat.le_refl _) (.cells #[.int .i64 gr, .int .i64 fr, .bool td, .int .i64 at', .string hh, .string ha, .string hp, .string hi, .slice ly es.length cy, .string hx] 24)))
      have hT3 := ten_below HTX2.out hbY
      have HTX3 := Lib.hid hT3
      obtain ⟨zX, x0, x1, x2, x3, x4, x5, x6, x7, x8, x9⟩ := hT3
      clear hEy hbD hbY X23'
      go_wp2_with fail
      refine (X22.out _ _ _ HX3.out HEY.out).mono ?_
      rintro r wE ⟨rfl, hbE⟩
      have HX4 := Lib.hid (HX3.out.trans (hbE.mono HX3.out.size))
      clear x0 x1 x2 x3 x4 x5 x6 x7 x8 x9 zX
      obtain ⟨zX, x0, x1, x2, x3, x4, x5, x6, x7, x8, x9⟩ := ten_below HTX3.out hbE
      clear hbE X22
      go_wp2_with fail
      refine (X15.out _ HX4.out).mono ?_
      rintro r wF ⟨rfl, hbF⟩
      have HFIN := Lib.hid (HBB.out.trans ((HX4.out.trans (hbF.mono HX4.out.size)).mono HBB.out.size))
      clear hbF
      go_wp2
      go_ret
      exact ⟨rfl, HFIN.out⟩
  case neg =>
    have hq : (R == 0) = false := beq_eq_false_iff_ne.2 hR0
    have HA := HB5
    have HE := HE5
    clear hR0 C23e ps1 C22
    go_wp2_with fail
    refine (C23.out _ HA.out).mono ?_
    rintro r wB (⟨rfl, hbB⟩ | ⟨gr, fr, at', td, h1, h2, h3, h4, h5, es, ⟨lx, cx, rfl, hEx, hbB⟩, hRx, hlx, htx⟩)
    · have hbZ := hbB.alloc hbB.size (.cells #[.int .i64 0, .int .i64 0, .bool false, .int .i64 0, .string ⟨#[]⟩, .string ⟨#[]⟩, .string ⟨#[]⟩, .string ⟨#[]⟩, .slice none 0 0, .string ⟨#[]⟩] 24)
      have HBZ := Lib.hid (HA.out.trans (hbZ.mono HA.out.size))
      obtain ⟨zZ, y0, y1, y2, y3, y4, y5, y6, y7, y8, y9⟩ := ten_below HE.out hbZ
      clear hbB hbZ
      go_wp2_with fail
      refine (C15.out _ HBZ.out).mono ?_
      rintro r wC ⟨rfl, hbC⟩
      have HBC := Lib.hid (HBZ.out.trans (hbC.mono HBZ.out.size))
      clear hbC
      go_wp2
      go_ret
      exact ⟨rfl, HBC.out⟩
    · obtain ⟨hh, e1⟩ : ∃ x, bytes h1 = x := ⟨_, rfl⟩
      obtain ⟨ha, e2⟩ : ∃ x, bytes h2 = x := ⟨_, rfl⟩
      obtain ⟨hp, e3⟩ : ∃ x, bytes h3 = x := ⟨_, rfl⟩
      obtain ⟨hi, e4⟩ : ∃ x, bytes h4 = x := ⟨_, rfl⟩
      obtain ⟨hx, e5⟩ : ∃ x, bytes h5 = x := ⟨_, rfl⟩
      have z5 : hx.size ≤ s.size := by rw [← e5, bytes_size]; exact htx
      rw [e1, e2, e3, e4, e5] at hRx ⊢
      clear e1 e2 e3 e4 e5 htx
      obtain ⟨_, _, _, ⟨wo1, wo2, wo3, wo4⟩, _⟩ := right_parts hRx
      have s1 := word_len wo1 (by decide)
      have s2 := word_len wo2 (by decide)
      have s3 := word_len wo3 (by decide)
      have s4 := word_len wo4 (by decide)
      have hIx : Ev.In ⟨gr, fr, td, at', hh, ha, hp, hi, es, hx⟩ wB (.slice lx es.length cx) := ⟨hEx, fit_of_len (es := es) (by omega), by show hh.size ≤ _; omega, by show ha.size ≤ _; omega, by show hp.size ≤ _; omega, by show hi.size ≤ _; omega, by show hx.size ≤ _; omega⟩
      have HBB := Lib.hid (HA.out.trans (hbB.mono HA.out.size))
      have X11 : Hid (∀ W, Below wB.heap.size wB W → Calls Tryz.prog 11 #[.agg #[.int .i64 gr, .int .i64 fr, .bool td, .int .i64 at', .string hh, .string ha, .string hp, .string hi, .slice lx es.length cx, .string hx]] W fun r w' => ∃ S, PrintS ⟨gr, fr, td, at', hh, ha, hp, hi, es, hx⟩ S ∧ r = .returned (.tuple #[.string S, .int .i64 0]) ∧ Below W.heap.size W w') := Lib.hid fun W hW => (print_any ⟨gr, fr, td, at', hh, ha, hp, hi, es, hx⟩ (.slice lx es.length cx) W (hS.out.below (HBB.out.trans (hW.mono HBB.out.size))) (hP.out.below (HBB.out.trans (hW.mono HBB.out.size))) (hIx.below hW) (by show (elmsT es).length ≤ _; omega) (by show hx.size ≤ _; omega)).mono fun r w' hh' => by
        obtain ⟨S, k1, k2, k3⟩ := printS_any hh'
        exact ⟨S, k1, by rw [← hRx]; exact k2, k3⟩
      have X15 : Hid (∀ W, Below wB.heap.size wB W → Calls Tryz.prog 15 #[.agg #[.int .i64 gr, .int .i64 fr, .bool td, .int .i64 at', .string hh, .string ha, .string hp, .string hi, .slice lx es.length cx, .string hx]] W fun e w' => e = .returned (.int .i64 0) ∧ Below W.heap.size W w') := Lib.hid fun W hW => by
        have k := right_any ⟨gr, fr, td, at', hh, ha, hp, hi, es, hx⟩ (.slice lx es.length cx) W (hS.out.below (HBB.out.trans (hW.mono HBB.out.size))) (hIx.below hW)
        rw [hRx] at k
        exact k
      have X23 : Hid (∀ S, PrintS ⟨gr, fr, td, at', hh, ha, hp, hi, es, hx⟩ S → ∀ W, Below wB.heap.size wB W → Calls Tryz.prog 23 #[.string S] W fun e w' => ∃ ly cy, e = .returned (.tuple #[.agg #[.int .i64 gr, .int .i64 fr, .bool td, .int .i64 at', .string hh, .string ha, .string hp, .string hi, .slice ly es.length cy, .string hx], .int .i64 0]) ∧ ElmsAt w' (.slice ly es.length cy) es ∧ Below W.heap.size W w') := Lib.hid fun S hPS W hW => by
        rcases hPS with ⟨k, _⟩ | ⟨_, T, hT, rfl⟩
        · exact absurd hRx k
        · have k := parse_printed gr fr at' td hh ha hp hi hx es T W (hS.out.below (HBB.out.trans (hW.mono HBB.out.size))) (hm.out.below (HBB.out.trans (hW.mono HBB.out.size))) (hP.out.below (HBB.out.trans (hW.mono HBB.out.size))) hRx hT (by omega) (by omega)
          unfold GoodAns at k
          simp only [bytes_self] at k
          exact k
      have X22 : Hid (∀ ly cy W, Below wB.heap.size wB W → ElmsAt W (.slice ly es.length cy) es → Calls Tryz.prog 22 #[.agg #[.int .i64 gr, .int .i64 fr, .bool td, .int .i64 at', .string hh, .string ha, .string hp, .string hi, .slice lx es.length cx, .string hx], .agg #[.int .i64 gr, .int .i64 fr, .bool td, .int .i64 at', .string hh, .string ha, .string hp, .string hi, .slice ly es.length cy, .string hx]] W fun e w' => e = .returned (.bool true) ∧ Below W.heap.size W w') := Lib.hid fun ly cy W hW hY =>
        (same_any ⟨gr, fr, td, at', hh, ha, hp, hi, es, hx⟩ ⟨gr, fr, td, at', hh, ha, hp, hi, es, hx⟩ _ _ W (hIx.below hW).data hY hIx.fits).mono fun e w' ⟨b, k1, k2, k3⟩ => ⟨by rw [← k2.2 rfl]; exact k1, k3⟩
      have hb1 := (Below.refl wB.heap.size wB).alloc (Nat.le_refl _) (.cells #[.int .i64 gr, .int .i64 fr, .bool td, .int .i64 at', .string hh, .string ha, .string hp, .string hi, .slice lx es.length cx, .string hx] 24)
      have HX1 := Lib.hid hb1
      have hX1 : TenAt wB.heap.size gr fr td at' hh ha hp hi (.slice lx es.length cx) hx (wB.alloc (.cells #[.int .i64 gr, .int .i64 fr, .bool td, .int .i64 at', .string hh, .string ha, .string hp, .string hi, .slice lx es.length cx, .string hx] 24)) := by
        refine ⟨by simp, ?_, ?_, ?_, ?_, ?_, ?_, ?_, ?_, ?_, ?_⟩ <;> simp [go_sem]
      have HTX := Lib.hid hX1
      clear hEx hRx hlx z5 wo1 wo2 wo3 wo4 s1 s2 s3 s4 hIx hbB hb1 hX1
      go_wp2_with fail
      refine (X11.out _ HX1.out).mono ?_
      rintro r wC ⟨S2, ps2, rfl, hbC⟩
      have HX2 := Lib.hid (HX1.out.trans (hbC.mono HX1.out.size))
      have HTX2 := Lib.hid (ten_below HTX.out hbC)
      have X23' := Lib.hid (X23.out S2 ps2)
      clear hbC ps2 X11 X23
      go_wp2_with fail
      refine (X23'.out _ HX2.out).mono ?_
      rintro r wD ⟨ly, cy, rfl, hEy, hbD⟩
      have hbY := hbD.alloc hbD.size (.cells #[.int .i64 gr, .int .i64 fr, .bool td, .int .i64 at', .string hh, .string ha, .string hp, .string hi, .slice ly es.length cy, .string hx] 24)
      have HX3 := Lib.hid (HX2.out.trans (hbY.mono HX2.out.size))
      have HEY := Lib.hid (hEy.below ((Below.refl wD.heap.size wD).alloc (Nat.le_refl _) (.cells #[.int .i64 gr, .int .i64 fr, .bool td, .int .i64 at', .string hh, .string ha, .string hp, .string hi, .slice ly es.length cy, .string hx] 24)))
      have hT3 := ten_below HTX2.out hbY
      have HTX3 := Lib.hid hT3
      obtain ⟨zX, x0, x1, x2, x3, x4, x5, x6, x7, x8, x9⟩ := hT3
      clear hEy hbD hbY X23'
      go_wp2_with fail
      refine (X22.out _ _ _ HX3.out HEY.out).mono ?_
      rintro r wE ⟨rfl, hbE⟩
      have HX4 := Lib.hid (HX3.out.trans (hbE.mono HX3.out.size))
      clear x0 x1 x2 x3 x4 x5 x6 x7 x8 x9 zX
      obtain ⟨zX, x0, x1, x2, x3, x4, x5, x6, x7, x8, x9⟩ := ten_below HTX3.out hbE
      clear hbE X22
      go_wp2_with fail
      refine (X15.out _ HX4.out).mono ?_
      rintro r wF ⟨rfl, hbF⟩
      have HFIN := Lib.hid (HBB.out.trans ((HX4.out.trans (hbF.mono HX4.out.size)).mono HBB.out.size))
      clear hbF
      go_wp2
      go_ret
      exact ⟨rfl, HFIN.out⟩
end Go.Proofs.YtnaijahhogndjaaGreatDoor.syslBack
/- A message among the arguments: opened out of the form's own reading; the listed variables, as the program's text lays them. -/
namespace Go.Proofs.YtnaijahhogndjaaGreatDoor
open Go.ChangeShapes Go.WideShapes Go.ChangeAt Go.RowKit

theorem cells2 : Tryz.prog.cellsOf 2 = 1 := by kernel_rfl
theorem cells3 : Tryz.prog.cellsOf 3 = 1 := by kernel_rfl
theorem cells4 : Tryz.prog.cellsOf 4 = 1 := by kernel_rfl
theorem cells9 : Tryz.prog.cellsOf 9 = 1 := by kernel_rfl
theorem cells22 : Tryz.prog.cellsOf 22 = 1 := by kernel_rfl
theorem cells24 : Tryz.prog.cellsOf 24 = 10 := by kernel_rfl
theorem cells50 : Tryz.prog.cellsOf 50 = 1 := by kernel_rfl
theorem cells52 : Tryz.prog.cellsOf 52 = 2 := by kernel_rfl
theorem cells54 : Tryz.prog.cellsOf 54 = 2 := by kernel_rfl
theorem bytes52 : Tryz.prog.bytesOf 52 = 40 := by kernel_rfl
theorem bytes54 : Tryz.prog.bytesOf 54 = 32 := by kernel_rfl
theorem reach_is : reachBytes = 140737488351232 := by decide
theorem choose_list {α : Type} {R : Nat → α → Prop} : ∀ n, (∀ i, i < n → ∃ x, R i x) → ∃ l : List α, l.length = n ∧ ∀ i x, l[i]? = some x → R i x
  | 0, _ => ⟨[], rfl, fun i x h => by simp at h⟩
  | n + 1, h => by
    obtain ⟨l, hl, hr⟩ := choose_list n (fun i hi => h i (by omega))
    obtain ⟨x, hx⟩ := h n (by omega)
    refine ⟨l ++ [x], by simp [hl], fun i y hy => ?_⟩
    rcases Nat.lt_or_ge i l.length with hi | hi
    · rw [List.getElem?_append_left hi] at hy
      exact hr i y hy
    · rw [List.getElem?_append_right hi] at hy
      have h0 : i - l.length = 0 := by
        rcases Nat.eq_zero_or_pos (i - l.length) with h | h
        · exact h
        · rw [List.getElem?_eq_none (by simp; omega)] at hy; cases hy
      rw [h0] at hy
      simp at hy
      subst hy
      have : i = n := by omega
      rw [this]; exact hx
section
set_option maxRecDepth 100000
variable {H : Type} {enc : TypeId × Value → H} {W : World}
theorem weights_in {e : TypeId} {l : List (DataW H)} {d : DataW H} {n : Nat} (h : d ∈ l) (hn : n ∈ d.weights Tryz.prog e) : n ∈ DataW.weightsAll Tryz.prog e l := by
  induction l with
  | nil => cases h
  | cons x l ih =>
    simp only [DataW.weightsAll, List.mem_append]
    rcases List.mem_cons.1 h with rfl | h
    · exact .inl hn
    · exact .inr (ih h)
theorem cells_two {a : Addr} {cs : List Value} {base : Nat} (h : W.cells? base a 2 = some cs) : ∃ c0 c1, cs = [c0, c1] ∧ W.cell? (a.add 0) = some c0 ∧ W.cell? (a.add 1) = some c1 := by
  obtain ⟨_, hl, hc⟩ := World.cells?_some h
  match cs, hl with
  | [c0, c1], _ => exact ⟨c0, c1, rfl, by simpa using hc 0 (by omega), by simpa using hc 1 (by omega)⟩
/-- A parameter. -/
theorem open_prm {fuel : Nat} {cs : List Value} {y : DataW H × List MemPlace} (h : DataW.trod enc Tryz.prog W 0 (fun _ => true) true fuel 54 cs = some y) :
    ∃ p : Prm, cs = [.string p.1, .string p.2] ∧ y.1 = .agg [.lit (.string p.1.data.toList), .lit (.string p.2.data.toList)] := by
  obtain ⟨xs, n, _, hx, hl, hlen, hg⟩ := DataW.trod_struct Tryz.underlying54 h
  rw [cells54] at hl
  have g0 := hg 0 _ rfl
  have g1 := hg 1 _ rfl
  match cs, hl, xs, hlen with
  | [c0, c1], _, [y0, y1], _ =>
    simp [cells9] at g0 g1
    obtain ⟨s0, e0, d0, _⟩ := DataW.trod_string Tryz.underlying9 g0
    obtain ⟨s1, e1, d1, _⟩ := DataW.trod_string Tryz.underlying9 g1
    simp at e0 e1
    exact ⟨(s0, s1), by rw [e0, e1], by rw [hx, d0, d1]; rfl⟩
theorem add_at (b o k : Nat) : (⟨b, o, none⟩ : Addr).add k = ⟨b, o + k, none⟩ := Go.WideShapes.add_plain ..
/-- A list of parameters. -/
theorem open_prms {fuel : Nat} {v : Value} {y : DataW H × List MemPlace} (h : DataW.trod enc Tryz.prog W 0 (fun _ => true) true fuel 50 [v] = some y) :
    ∃ ps, PrmsAt W v ps ∧ ((∀ n ∈ y.1.weights Tryz.prog 50, n ≤ reachBytes) → ps.length ≤ 17592186044416 ∧ ∀ p ∈ ps, p.1.size ≤ 140737488355328 ∧ p.2.size ≤ 140737488355328) := by
  rcases DataW.trod_slice Tryz.underlying50 h with ⟨hv, hy⟩ | ⟨a, len, cap, elems, rest, n, _, hv, hy, _, hlc, _, hel, hat, _, _⟩
  · simp only [List.cons.injEq, and_true] at hv
    subst hv
    exact ⟨[], PrmsAt.nil W none 0, fun _ => ⟨by decide, fun p hp => by cases hp⟩⟩
  · simp only [List.cons.injEq, and_true] at hv
    subst hv
    have hR : ∀ i, i < len → ∃ p : Prm, ∃ e, elems[i]? = some e ∧ e.1 = .agg [.lit (.string p.1.data.toList), .lit (.string p.2.data.toList)] ∧ W.cell? ((a.add (i * 2)).add 0) = some (.string p.1) ∧ W.cell? ((a.add (i * 2)).add 1) = some (.string p.2) := by
      intro i hi
      have hi' := hat i hi
      rw [cells54] at hi'
      have hlt : i < elems.length := by omega
      rw [List.getElem?_eq_getElem hlt] at hi'
      rw [Option.bind_eq_some_iff] at hi'
      obtain ⟨cs, hcs, ht⟩ := hi'
      obtain ⟨p, hp, he⟩ := open_prm ht
      obtain ⟨c0, c1, e0, k0, k1⟩ := cells_two hcs
      rw [hp] at e0
      simp only [List.cons.injEq, and_true] at e0
      obtain ⟨rfl, rfl⟩ := e0
      exact ⟨p, _, List.getElem?_eq_getElem hlt, he, k0, k1⟩
    obtain ⟨ps, hps, hr⟩ := choose_list len hR
    refine ⟨ps, ⟨some a, cap, by rw [hps], fun h0 => ?_⟩, fun hw => ?_⟩
    · obtain ⟨b, off, spot⟩ := a
      obtain ⟨p0, hp0⟩ : ∃ p0, ps[0]? = some p0 := ⟨_, List.getElem?_eq_getElem h0⟩
      obtain ⟨_, _, _, k0, _⟩ := hr 0 p0 hp0
      obtain rfl : spot = none := by simpa [Addr.add] using World.cell?_spot k0
      refine ⟨b, off, rfl, ?_, fun j p hp => ?_⟩
      · rw [add_at, add_at] at k0
        exact World.block_lt_of_cell? W _ k0
      · obtain ⟨_, _, _, k0, k1⟩ := hr j p hp
        rw [add_at, add_at] at k0 k1
        exact ⟨by rw [show off + 2 * j = off + j * 2 + 0 by omega]; exact k0, by rw [show off + 2 * j + 1 = off + j * 2 + 1 by omega]; exact k1⟩
    · rw [hy] at hw
      simp only [DataW.weights, Tryz.underlying50, bytes54, List.mem_cons, List.mem_append, reach_is] at hw
      have h1 := hw _ (.inl rfl)
      simp only [List.length_map] at h1
      refine ⟨by omega, fun p hp => ?_⟩
      obtain ⟨i, hi, hpi⟩ := List.getElem_of_mem hp
      obtain ⟨e, he, hd, _⟩ := hr i p (by rw [List.getElem?_eq_getElem hi, hpi])
      have hem : e.1 ∈ elems.map (·.1) := List.mem_map.2 ⟨e, List.mem_of_getElem? he, rfl⟩
      have w1 : p.1.data.toList.length ∈ e.1.weights Tryz.prog 54 := by rw [hd]; simp [DataW.weights, Tryz.underlying54, DataW.weightsEach]
      have w2 : p.2.data.toList.length ∈ e.1.weights Tryz.prog 54 := by rw [hd]; simp [DataW.weights, Tryz.underlying54, DataW.weightsEach]
      have q1 := hw _ (.inr (.inl (weights_in hem w1)))
      have q2 := hw _ (.inr (.inl (weights_in hem w2)))
      rw [list_size] at q1 q2
      omega
/-- An element, with a reading of its list. -/
theorem open_elm {fuel : Nat} {cs : List Value} {y : DataW H × List MemPlace} (h : DataW.trod enc Tryz.prog W 0 (fun _ => true) true fuel 52 cs = some y) :
    ∃ (e : Elm) (lv : Value) (d : DataW H), cs = [.string e.1, lv] ∧ y.1 = .agg [.lit (.string e.1.data.toList), d] ∧ PrmsAt W lv e.2 ∧
      ((∀ n ∈ d.weights Tryz.prog 50, n ≤ reachBytes) → e.2.length ≤ 17592186044416 ∧ ∀ p ∈ e.2, p.1.size ≤ 140737488355328 ∧ p.2.size ≤ 140737488355328) := by
  obtain ⟨xs, n, _, hx, hl, hlen, hg⟩ := DataW.trod_struct Tryz.underlying52 h
  rw [cells52] at hl
  have g0 := hg 0 _ rfl
  have g1 := hg 1 _ rfl
  match cs, hl, xs, hlen with
  | [c0, c1], _, [y0, y1], _ =>
    simp [cells9, cells50] at g0 g1
    obtain ⟨s0, e0, d0, _⟩ := DataW.trod_string Tryz.underlying9 g0
    simp at e0
    obtain ⟨ps, hps, hb⟩ := open_prms g1
    exact ⟨(s0, ps), c1, y1.1, by rw [e0], by rw [hx, d0]; rfl, hps, hb⟩
/-- A list of elements. -/
theorem open_elms {fuel : Nat} {v : Value} {y : DataW H × List MemPlace} (h : DataW.trod enc Tryz.prog W 0 (fun _ => true) true fuel 22 [v] = some y) :
    ∃ es, ElmsAt W v es ∧ (∃ la lc, v = .slice la es.length lc ∧ es.length ≤ lc ∧ lc ≤ 9223372036854775807) ∧ ((∀ n ∈ y.1.weights Tryz.prog 22, n ≤ reachBytes) → ElmsFit es) := by
  rcases DataW.trod_slice Tryz.underlying22 h with ⟨hv, hy⟩ | ⟨a, len, cap, elems, rest, n, _, hv, hy, _, hlc, hmx, hel, hat, _, _⟩
  · simp only [List.cons.injEq, and_true] at hv
    subst hv
    exact ⟨[], ElmsAt.nil W none 0, ⟨none, 0, rfl, by decide, by decide⟩, fun _ => ⟨by decide, fun p hp => by cases hp⟩⟩
  · simp only [List.cons.injEq, and_true] at hv
    subst hv
    have hR : ∀ i, i < len → ∃ e : Elm, ∃ (x : DataW H × List MemPlace) (lv : Value) (d : DataW H), elems[i]? = some x ∧ x.1 = .agg [.lit (.string e.1.data.toList), d] ∧ PrmsAt W lv e.2 ∧
        ((∀ n ∈ d.weights Tryz.prog 50, n ≤ reachBytes) → e.2.length ≤ 17592186044416 ∧ ∀ p ∈ e.2, p.1.size ≤ 140737488355328 ∧ p.2.size ≤ 140737488355328) ∧
        W.cell? ((a.add (i * 2)).add 0) = some (.string e.1) ∧ W.cell? ((a.add (i * 2)).add 1) = some lv := by
      intro i hi
      have hi' := hat i hi
      rw [cells52] at hi'
      have hlt : i < elems.length := by omega
      rw [List.getElem?_eq_getElem hlt] at hi'
      rw [Option.bind_eq_some_iff] at hi'
      obtain ⟨cs, hcs, ht⟩ := hi'
      obtain ⟨e, lv, d, hp, he, hps, hb⟩ := open_elm ht
      obtain ⟨c0, c1, e0, k0, k1⟩ := cells_two hcs
      rw [hp] at e0
      simp only [List.cons.injEq, and_true] at e0
      obtain ⟨rfl, rfl⟩ := e0
      exact ⟨e, _, lv, d, List.getElem?_eq_getElem hlt, he, hps, hb, k0, k1⟩
    obtain ⟨es, hes, hr⟩ := choose_list len hR
    refine ⟨es, ⟨some a, cap, by rw [hes], fun h0 => ?_⟩, ⟨some a, cap, by rw [hes], by omega, by unfold maxLen at hmx; omega⟩, fun hw => ?_⟩
    · obtain ⟨b, off, spot⟩ := a
      obtain ⟨p0, hp0⟩ : ∃ p0, es[0]? = some p0 := ⟨_, List.getElem?_eq_getElem h0⟩
      obtain ⟨_, _, _, _, _, _, _, k0, _⟩ := hr 0 p0 hp0
      obtain rfl : spot = none := by simpa [Addr.add] using World.cell?_spot k0
      refine ⟨b, off, rfl, ?_, fun j e he => ?_⟩
      · rw [add_at, add_at] at k0
        exact World.block_lt_of_cell? W _ k0
      · obtain ⟨_, lv, _, _, _, hps, _, k0, k1⟩ := hr j e he
        rw [add_at, add_at] at k0 k1
        exact ⟨lv, by rw [show off + 2 * j = off + j * 2 + 0 by omega]; exact k0, by rw [show off + 2 * j + 1 = off + j * 2 + 1 by omega]; exact k1, hps⟩
    · rw [hy] at hw
      simp only [DataW.weights, Tryz.underlying22, bytes52, List.mem_cons, List.mem_append] at hw
      have h1 := hw _ (.inl rfl)
      rw [reach_is] at h1
      simp only [List.length_map] at h1
      refine ⟨by omega, fun e he => ?_⟩
      obtain ⟨i, hi, hpi⟩ := List.getElem_of_mem he
      obtain ⟨x, lv, d, hx, hd, _, hb, _, _⟩ := hr i e (by rw [List.getElem?_eq_getElem hi, hpi])
      have hem : x.1 ∈ elems.map (·.1) := List.mem_map.2 ⟨x, List.mem_of_getElem? hx, rfl⟩
      have w1 : e.1.data.toList.length ∈ x.1.weights Tryz.prog 52 := by rw [hd]; simp [DataW.weights, Tryz.underlying52, DataW.weightsEach]
      have q1 := hw _ (.inr (.inl (weights_in hem w1)))
      rw [list_size, reach_is] at q1
      have q2 := hb (fun n hn => hw _ (.inr (.inl (weights_in hem (by rw [hd]; simp [DataW.weights, Tryz.underlying52, DataW.weightsEach, hn])))))
      exact ⟨by omega, q2.1, q2.2⟩
/-- A message. -/
theorem open_ev {r : Reach} {b0 : Nat} {v : Value} {d : DataW H} {p : List MemPlace} (hv : Value.okWide Tryz.prog W r b0 24 v) (h : DataW.Trod enc Tryz.prog W 0 (fun _ => true) true 24 v d p) :
    ∃ (e : Ev) (dv : Value), v = e.val dv ∧ (∃ la lc, dv = .slice la e.data.length lc ∧ e.data.length ≤ lc ∧ lc ≤ 9223372036854775807) ∧ ((∀ n ∈ d.weights Tryz.prog 24, n ≤ reachBytes) → e.In W dv) := by
  obtain ⟨cs, rfl, hsz⟩ := okWide_struct Tryz.underlying24 hv
  obtain ⟨l⟩ := cs
  match l, hsz.trans cells24 with
  | [c0, c1, c2, c3, c4, c5, c6, c7, c8, c9], _ =>
    obtain ⟨fuel, hf⟩ := h
    obtain ⟨xs, n, _, hx, _, hlen, hg⟩ := DataW.trod_struct Tryz.underlying24 hf
    have g0 := hg 0 _ rfl
    have g1 := hg 1 _ rfl
    have g2 := hg 2 _ rfl
    have g3 := hg 3 _ rfl
    have g4 := hg 4 _ rfl
    have g5 := hg 5 _ rfl
    have g6 := hg 6 _ rfl
    have g7 := hg 7 _ rfl
    have g8 := hg 8 _ rfl
    have g9 := hg 9 _ rfl
    match xs, hlen with
    | [y0, y1, y2, y3, y4, y5, y6, y7, y8, y9], _ =>
      simp [Value.cells, cells2, cells3, cells4, cells9, cells22] at g0 g1 g2 g3 g4 g5 g6 g7 g8 g9
      obtain ⟨a0, e0, _, _⟩ := DataW.trod_int Tryz.underlying3 g0
      obtain ⟨a1, e1, _, _⟩ := DataW.trod_int Tryz.underlying3 g1
      obtain ⟨a2, e2, _⟩ := DataW.trod_bool Tryz.underlying4 g2
      obtain ⟨a3, e3, _, _⟩ := DataW.trod_int Tryz.underlying2 g3
      obtain ⟨a4, e4, d4, _⟩ := DataW.trod_string Tryz.underlying9 g4
      obtain ⟨a5, e5, d5, _⟩ := DataW.trod_string Tryz.underlying9 g5
      obtain ⟨a6, e6, d6, _⟩ := DataW.trod_string Tryz.underlying9 g6
      obtain ⟨a7, e7, d7, _⟩ := DataW.trod_string Tryz.underlying9 g7
      obtain ⟨es, hes, hsh, hb⟩ := open_elms g8
      obtain ⟨a9, e9, d9, _⟩ := DataW.trod_string Tryz.underlying9 g9
      simp at e0 e1 e2 e3 e4 e5 e6 e7 e9
      subst e0 e1 e2 e3 e4 e5 e6 e7 e9
      refine ⟨⟨a0, a1, a2, a3, a4, a5, a6, a7, es, a9⟩, c8, rfl, hsh, fun hw => ?_⟩
      have hd : d = .agg [y0.1, y1.1, y2.1, y3.1, y4.1, y5.1, y6.1, y7.1, y8.1, y9.1] := by simpa using congrArg Prod.fst hx
      rw [hd, d4, d5, d6, d7, d9] at hw
      simp only [DataW.weights, Tryz.underlying24, DataW.weightsEach, List.map_cons, List.map_nil, List.mem_append, List.mem_cons, List.not_mem_nil, or_false, list_size] at hw
      have hr := reach_is
      refine ⟨hes, hb (fun n hn => hw n (by simp [hn])), ?_, ?_, ?_, ?_, ?_⟩
      · show a4.size ≤ 140737488355328
        have := hw a4.size (by simp); omega
      · show a5.size ≤ 140737488355328
        have := hw a5.size (by simp); omega
      · show a6.size ≤ 140737488355328
        have := hw a6.size (by simp); omega
      · show a7.size ≤ 140737488355328
        have := hw a7.size (by simp); omega
      · show a9.size ≤ 140737488355328
        have := hw a9.size (by simp); omega
end
end Go.Proofs.YtnaijahhogndjaaGreatDoor
