/- The walk of SyslBack: what is printed is parsed as it was; what is parsed is right, and printed anew it is parsed as that. -/
import Derived.Test.YtnaijahhogndjaaGreatDoorBG43
import Derived.Test.YtnaijahhogndjaaGreatDoorBG44
import Derived.Test.YtnaijahhogndjaaGreatDoorBG11
import Derived.Test.YtnaijahhogndjaaGreatDoorBG45
namespace Go.Proofs.YtnaijahhogndjaaGreatDoor.syslBack
open Go.ChangeShapes Go.WideShapes Go.ChangeAt Go.RowKit

/-- Ten cells of a block hold an event. -/
abbrev TenAt (b : Nat) (g f : Int) (t : Bool) (a : Int) (ho ap pr id : ByteArray) (dv : Value) (tx : ByteArray) (W : World) : Prop :=
  b < W.heap.size ∧ W.cell? ⟨b, 0, none⟩ = some (.int .i64 g) ∧ W.cell? ⟨b, 1, none⟩ = some (.int .i64 f) ∧ W.cell? ⟨b, 2, none⟩ = some (.bool t) ∧ W.cell? ⟨b, 3, none⟩ = some (.int .i64 a) ∧ W.cell? ⟨b, 4, none⟩ = some (.string ho) ∧ W.cell? ⟨b, 5, none⟩ = some (.string ap) ∧ W.cell? ⟨b, 6, none⟩ = some (.string pr) ∧ W.cell? ⟨b, 7, none⟩ = some (.string id) ∧ W.cell? ⟨b, 8, none⟩ = some dv ∧ W.cell? ⟨b, 9, none⟩ = some (.string tx)
theorem ten_below {b : Nat} {g f : Int} {t : Bool} {a : Int} {ho ap pr id : ByteArray} {dv : Value} {tx : ByteArray} {W W' : World} (h : TenAt b g f t a ho ap pr id dv tx W) (hb : Below W.heap.size W W') : TenAt b g f t a ho ap pr id dv tx W' := by
  obtain ⟨hl, h0, h1, h2, h3, h4, h5, h6, h7, h8, h9⟩ := h
  have hc := (bcell hb).1
  exact ⟨Nat.lt_of_lt_of_le hl hb.size, (hc _ _ hl).trans h0, (hc _ _ hl).trans h1, (hc _ _ hl).trans h2, (hc _ _ hl).trans h3, (hc _ _ hl).trans h4, (hc _ _ hl).trans h5, (hc _ _ hl).trans h6, (hc _ _ hl).trans h7, (hc _ _ hl).trans h8, (hc _ _ hl).trans h9⟩
set_option maxHeartbeats 16000000 in
set_option maxRecDepth 100000 in
theorem walk (x : Ev) (va : Value) (s : ByteArray) (w : World) (hS0 : Std w) (hm0 : Max w) (hP0 : Cal.Pow w) (hE0 : Errs w) (hx : x.In w va) (lx : (elmsT x.data).length ≤ 2097152) (tx1 : x.text.size ≤ 1048576) (hs : s.size ≤ 1048576) :
    Calls Tryz.prog 5 #[x.val va, .string s] w fun e w' => e = .returned (.bool true) ∧ Below w.heap.size w w' := by
  obtain ⟨la, ca, rfl⟩ := hx.data.shape
  obtain ⟨g, f, t, a, ho, ap, pr, id, da, tx⟩ := x
  simp only at lx tx1
  have hb0 : Below w.heap.size w (w.alloc (.cells #[.int .i64 g, .int .i64 f, .bool t, .int .i64 a, .string ho, .string ap, .string pr, .string id, .slice la da.length ca, .string tx] 24)) := (Below.refl _ _).alloc (Nat.le_refl _) _
  have hE0t : TenAt w.heap.size g f t a ho ap pr id (.slice la da.length ca) tx (w.alloc (.cells #[.int .i64 g, .int .i64 f, .bool t, .int .i64 a, .string ho, .string ap, .string pr, .string id, .slice la da.length ca, .string tx] 24)) := by
    refine ⟨by simp, ?_, ?_, ?_, ?_, ?_, ?_, ?_, ?_, ?_, ?_⟩ <;> simp [go_sem]
  have hS := Lib.hid hS0
  have hm := Lib.hid hm0
  have hP := Lib.hid hP0
  obtain ⟨R, hR⟩ : ∃ R, rightE ⟨g, f, t, a, ho, ap, pr, id, da, tx⟩ = R := ⟨_, rfl⟩
  have C11 : Hid (∀ W, Below w.heap.size w W → Calls Tryz.prog 11 #[.agg #[.int .i64 g, .int .i64 f, .bool t, .int .i64 a, .string ho, .string ap, .string pr, .string id, .slice la da.length ca, .string tx]] W fun r w' => ∃ S, PrintS ⟨g, f, t, a, ho, ap, pr, id, da, tx⟩ S ∧ r = .returned (.tuple #[.string S, .int .i64 R]) ∧ Below W.heap.size W w') := Lib.hid fun W hW => (print_any ⟨g, f, t, a, ho, ap, pr, id, da, tx⟩ (.slice la da.length ca) W (hS0.below hW) (hP0.below hW) (hx.below hW) (by show (elmsT da).length ≤ _; omega) (by show tx.size ≤ _; omega)).mono fun r w' h => by
    obtain ⟨S, h1, h2, h3⟩ := printS_any h
    exact ⟨S, h1, by rw [← hR]; exact h2, h3⟩
  have C15 : Hid (∀ W, Below w.heap.size w W → Calls Tryz.prog 15 #[.agg #[.int .i64 g, .int .i64 f, .bool t, .int .i64 a, .string ho, .string ap, .string pr, .string id, .slice la da.length ca, .string tx]] W fun e w' => e = .returned (.int .i64 R) ∧ Below W.heap.size W w') := Lib.hid fun W hW => by
    rw [← hR]; exact right_any ⟨g, f, t, a, ho, ap, pr, id, da, tx⟩ (.slice la da.length ca) W (hS0.below hW) (hx.below hW)
  have C23 : Hid (∀ W, Below w.heap.size w W → Calls Tryz.prog 23 #[.string s] W fun e w' => BadAns W e w' ∨ FitAns s.size W e w') := Lib.hid fun W hW => by
    have h := parse_any s.data.toList W (hS0.below hW) (hm0.below hW) (hP0.below hW) (hE0.below hW) (by rw [list_size]; omega)
    rw [bytes_self, list_size] at h
    exact h
  have C23e : Hid (R = 0 → ∀ S, PrintS ⟨g, f, t, a, ho, ap, pr, id, da, tx⟩ S → ∀ W, Below w.heap.size w W → Calls Tryz.prog 23 #[.string S] W fun e w' => ∃ lk ck, e = .returned (.tuple #[.agg #[.int .i64 g, .int .i64 f, .bool t, .int .i64 a, .string ho, .string ap, .string pr, .string id, .slice lk da.length ck, .string tx], .int .i64 0]) ∧ ElmsAt w' (.slice lk da.length ck) da ∧ Below W.heap.size W w') := Lib.hid fun h0 S hPS W hW => by
    rcases hPS with ⟨k, _⟩ | ⟨_, T, hT, rfl⟩
    · exact absurd (hR.trans h0) k
    · have k := parse_printed g f a t ho ap pr id tx da T W (hS0.below hW) (hm0.below hW) (hP0.below hW) (hR.trans h0) hT (by omega) (by omega)
      unfold GoodAns at k
      simp only [bytes_self] at k
      exact k
  have C22 : Hid (∀ lk ck W, Below w.heap.size w W → ElmsAt W (.slice lk da.length ck) da → Calls Tryz.prog 22 #[.agg #[.int .i64 g, .int .i64 f, .bool t, .int .i64 a, .string ho, .string ap, .string pr, .string id, .slice lk da.length ck, .string tx], .agg #[.int .i64 g, .int .i64 f, .bool t, .int .i64 a, .string ho, .string ap, .string pr, .string id, .slice la da.length ca, .string tx]] W fun e w' => e = .returned (.bool true) ∧ Below W.heap.size W w') := Lib.hid fun lk ck W hW hK =>
    (same_any ⟨g, f, t, a, ho, ap, pr, id, da, tx⟩ ⟨g, f, t, a, ho, ap, pr, id, da, tx⟩ _ _ W hK (hx.below hW).data hx.fits).mono fun e w' ⟨b, k1, k2, k3⟩ => ⟨by rw [← k2.2 rfl]; exact k1, k3⟩
  have HSH := Lib.hid (shown_any _ (hS0.below hb0) (hm0.below hb0))
  have HB0 := Lib.hid hb0
  have HE0 := Lib.hid hE0t
  clear hS0 hm0 hP0 hE0 hx lx tx1 hR hb0 hE0t
  go_enter Tryz.func5, Tryz.ntmps5
  go_wp2_with fail
  refine HSH.out.mono ?_
  rintro r w4 ⟨rfl, hb4⟩
  have HB4 := Lib.hid (HB0.out.trans (hb4.mono HB0.out.size))
  have HE4 := Lib.hid (ten_below HE0.out hb4)
  obtain ⟨zA, a0, a1, a2, a3, a4, a5, a6, a7, a8, a9⟩ := ten_below HE0.out hb4
  clear hb4 HSH
  go_wp2_with fail
  refine (C11.out _ HB4.out).mono ?_
  rintro r w5 ⟨S1, ps1, rfl, hb5⟩
  have HB5 := Lib.hid (HB4.out.trans (hb5.mono HB4.out.size))
  have HE5 := Lib.hid (ten_below HE4.out hb5)
  clear a0 a1 a2 a3 a4 a5 a6 a7 a8 a9 zA
  clear hb5 C11
  by_cases hR0 : R = 0
  case pos =>
    subst hR0
    have C23f := Lib.hid (C23e.out rfl S1 ps1)
    clear C23e ps1
    go_wp2_with fail
    refine (C23f.out _ HB5.out).mono ?_
    rintro r w6 ⟨lk, ck, rfl, hEk, hb6⟩
    have hbK := hb6.alloc hb6.size (.cells #[.int .i64 g, .int .i64 f, .bool t, .int .i64 a, .string ho, .string ap, .string pr, .string id, .slice lk da.length ck, .string tx] 24)
    have HB6 := Lib.hid (HB5.out.trans (hbK.mono HB5.out.size))
    have HEK := Lib.hid (hEk.below ((Below.refl w6.heap.size w6).alloc (Nat.le_refl _) (.cells #[.int .i64 g, .int .i64 f, .bool t, .int .i64 a, .string ho, .string ap, .string pr, .string id, .slice lk da.length ck, .string tx] 24)))
    have hT6 := ten_below HE5.out hbK
    have HE6 := Lib.hid hT6
    obtain ⟨zA, a0, a1, a2, a3, a4, a5, a6, a7, a8, a9⟩ := hT6
    clear hEk hb6 hbK C23f
    go_wp2_with fail
    refine (C22.out _ _ _ HB6.out HEK.out).mono ?_
    rintro r w7 ⟨rfl, hb7⟩
    have HA := Lib.hid (HB6.out.trans (hb7.mono HB6.out.size))
    have HE := Lib.hid (ten_below HE6.out hb7)
    clear a0 a1 a2 a3 a4 a5 a6 a7 a8 a9 zA hb7 C22
    go_wp2_with fail
    refine (C23.out _ HA.out).mono ?_
    rintro r wB (⟨rfl, hbB⟩ | ⟨gr, fr, at', td, h1, h2, h3, h4, h5, es, ⟨lx, cx, rfl, hEx, hbB⟩, hRx, hlx, htx⟩)
    · have hbZ := hbB.alloc hbB.size (.cells #[.int .i64 0, .int .i64 0, .bool false, .int .i64 0, .string ⟨#[]⟩, .string ⟨#[]⟩, .string ⟨#[]⟩, .string ⟨#[]⟩, .slice none 0 0, .string ⟨#[]⟩] 24)
      have HBZ := Lib.hid (HA.out.trans (hbZ.mono HA.out.size))
      obtain ⟨zZ, y0, y1, y2, y3, y4, y5, y6, y7, y8, y9⟩ := ten_below HE.out hbZ
      clear hbB hbZ
      go_wp2_with fail
      refine (C15.out _ HBZ.out).mono ?_
      rintro r wC ⟨rfl, hbC⟩
      have HBC := Lib.hid (HBZ.out.trans (hbC.mono HBZ.out.size))
      clear hbC
      go_wp2
      go_ret
      exact ⟨rfl, HBC.out⟩
    · obtain ⟨hh, e1⟩ : ∃ x, bytes h1 = x := ⟨_, rfl⟩
      obtain ⟨ha, e2⟩ : ∃ x, bytes h2 = x := ⟨_, rfl⟩
      obtain ⟨hp, e3⟩ : ∃ x, bytes h3 = x := ⟨_, rfl⟩
      obtain ⟨hi, e4⟩ : ∃ x, bytes h4 = x := ⟨_, rfl⟩
      obtain ⟨hx, e5⟩ : ∃ x, bytes h5 = x := ⟨_, rfl⟩
      have z5 : hx.size ≤ s.size := by rw [← e5, bytes_size]; exact htx
      rw [e1, e2, e3, e4, e5] at hRx ⊢
      clear e1 e2 e3 e4 e5 htx
      obtain ⟨_, _, _, ⟨wo1, wo2, wo3, wo4⟩, _⟩ := right_parts hRx
      have s1 := word_len wo1 (by decide)
      have s2 := word_len wo2 (by decide)
      have s3 := word_len wo3 (by decide)
      have s4 := word_len wo4 (by decide)
      have hIx : Ev.In ⟨gr, fr, td, at', hh, ha, hp, hi, es, hx⟩ wB (.slice lx es.length cx) := ⟨hEx, fit_of_len (es := es) (by omega), by show hh.size ≤ _; omega, by show ha.size ≤ _; omega, by show hp.size ≤ _; omega, by show hi.size ≤ _; omega, by show hx.size ≤ _; omega⟩
      have HBB := Lib.hid (HA.out.trans (hbB.mono HA.out.size))
      have X11 : Hid (∀ W, Below wB.heap.size wB W → Calls Tryz.prog 11 #[.agg #[.int .i64 gr, .int .i64 fr, .bool td, .int .i64 at', .string hh, .string ha, .string hp, .string hi, .slice lx es.length cx, .string hx]] W fun r w' => ∃ S, PrintS ⟨gr, fr, td, at', hh, ha, hp, hi, es, hx⟩ S ∧ r = .returned (.tuple #[.string S, .int .i64 0]) ∧ Below W.heap.size W w') := Lib.hid fun W hW => (print_any ⟨gr, fr, td, at', hh, ha, hp, hi, es, hx⟩ (.slice lx es.length cx) W (hS.out.below (HBB.out.trans (hW.mono HBB.out.size))) (hP.out.below (HBB.out.trans (hW.mono HBB.out.size))) (hIx.below hW) (by show (elmsT es).length ≤ _; omega) (by show hx.size ≤ _; omega)).mono fun r w' hh' => by
        obtain ⟨S, k1, k2, k3⟩ := printS_any hh'
        exact ⟨S, k1, by rw [← hRx]; exact k2, k3⟩
      have X15 : Hid (∀ W, Below wB.heap.size wB W → Calls Tryz.prog 15 #[.agg #[.int .i64 gr, .int .i64 fr, .bool td, .int .i64 at', .string hh, .string ha, .string hp, .string hi, .slice lx es.length cx, .string hx]] W fun e w' => e = .returned (.int .i64 0) ∧ Below W.heap.size W w') := Lib.hid fun W hW => by
        have k := right_any ⟨gr, fr, td, at', hh, ha, hp, hi, es, hx⟩ (.slice lx es.length cx) W (hS.out.below (HBB.out.trans (hW.mono HBB.out.size))) (hIx.below hW)
        rw [hRx] at k
        exact k
      have X23 : Hid (∀ S, PrintS ⟨gr, fr, td, at', hh, ha, hp, hi, es, hx⟩ S → ∀ W, Below wB.heap.size wB W → Calls Tryz.prog 23 #[.string S] W fun e w' => ∃ ly cy, e = .returned (.tuple #[.agg #[.int .i64 gr, .int .i64 fr, .bool td, .int .i64 at', .string hh, .string ha, .string hp, .string hi, .slice ly es.length cy, .string hx], .int .i64 0]) ∧ ElmsAt w' (.slice ly es.length cy) es ∧ Below W.heap.size W w') := Lib.hid fun S hPS W hW => by
        rcases hPS with ⟨k, _⟩ | ⟨_, T, hT, rfl⟩
        · exact absurd hRx k
        · have k := parse_printed gr fr at' td hh ha hp hi hx es T W (hS.out.below (HBB.out.trans (hW.mono HBB.out.size))) (hm.out.below (HBB.out.trans (hW.mono HBB.out.size))) (hP.out.below (HBB.out.trans (hW.mono HBB.out.size))) hRx hT (by omega) (by omega)
          unfold GoodAns at k
          simp only [bytes_self] at k
          exact k
      have X22 : Hid (∀ ly cy W, Below wB.heap.size wB W → ElmsAt W (.slice ly es.length cy) es → Calls Tryz.prog 22 #[.agg #[.int .i64 gr, .int .i64 fr, .bool td, .int .i64 at', .string hh, .string ha, .string hp, .string hi, .slice lx es.length cx, .string hx], .agg #[.int .i64 gr, .int .i64 fr, .bool td, .int .i64 at', .string hh, .string ha, .string hp, .string hi, .slice ly es.length cy, .string hx]] W fun e w' => e = .returned (.bool true) ∧ Below W.heap.size W w') := Lib.hid fun ly cy W hW hY =>
        (same_any ⟨gr, fr, td, at', hh, ha, hp, hi, es, hx⟩ ⟨gr, fr, td, at', hh, ha, hp, hi, es, hx⟩ _ _ W (hIx.below hW).data hY hIx.fits).mono fun e w' ⟨b, k1, k2, k3⟩ => ⟨by rw [← k2.2 rfl]; exact k1, k3⟩
      have hb1 := (Below.refl wB.heap.size wB).alloc (Nat.le_refl _) (.cells #[.int .i64 gr, .int .i64 fr, .bool td, .int .i64 at', .string hh, .string ha, .string hp, .string hi, .slice lx es.length cx, .string hx] 24)
      have HX1 := Lib.hid hb1
      have hX1 : TenAt wB.heap.size gr fr td at' hh ha hp hi (.slice lx es.length cx) hx (wB.alloc (.cells #[.int .i64 gr, .int .i64 fr, .bool td, .int .i64 at', .string hh, .string ha, .string hp, .string hi, .slice lx es.length cx, .string hx] 24)) := by
        refine ⟨by simp, ?_, ?_, ?_, ?_, ?_, ?_, ?_, ?_, ?_, ?_⟩ <;> simp [go_sem]
      have HTX := Lib.hid hX1
      clear hEx hRx hlx z5 wo1 wo2 wo3 wo4 s1 s2 s3 s4 hIx hbB hb1 hX1
      go_wp2_with fail
      refine (X11.out _ HX1.out).mono ?_
      rintro r wC ⟨S2, ps2, rfl, hbC⟩
      have HX2 := Lib.hid (HX1.out.trans (hbC.mono HX1.out.size))
      have HTX2 := Lib.hid (ten_below HTX.out hbC)
      have X23' := Lib.hid (X23.out S2 ps2)
      clear hbC ps2 X11 X23
      go_wp2_with fail
      refine (X23'.out _ HX2.out).mono ?_
      rintro r wD ⟨ly, cy, rfl, hEy, hbD⟩
      have hbY := hbD.alloc hbD.size (.cells #[.int .i64 gr, .int .i64 fr, .bool td, .int .i64 at', .string hh, .string ha, .string hp, .string hi, .slice ly es.length cy, .string hx] 24)
      have HX3 := Lib.hid (HX2.out.trans (hbY.mono HX2.out.size))
      have HEY := Lib.hid (hEy.below ((Below.refl wD.heap.size wD).alloc (Nat.le_refl _) (.cells #[.int .i64 gr, .int .i64 fr, .bool td, .int .i64 at', .string hh, .string ha, .string hp, .string hi, .slice ly es.length cy, .string hx] 24)))
      have hT3 := ten_below HTX2.out hbY
      have HTX3 := Lib.hid hT3
      obtain ⟨zX, x0, x1, x2, x3, x4, x5, x6, x7, x8, x9⟩ := hT3
      clear hEy hbD hbY X23'
      go_wp2_with fail
      refine (X22.out _ _ _ HX3.out HEY.out).mono ?_
      rintro r wE ⟨rfl, hbE⟩
      have HX4 := Lib.hid (HX3.out.trans (hbE.mono HX3.out.size))
      clear x0 x1 x2 x3 x4 x5 x6 x7 x8 x9 zX
      obtain ⟨zX, x0, x1, x2, x3, x4, x5, x6, x7, x8, x9⟩ := ten_below HTX3.out hbE
      clear hbE X22
      go_wp2_with fail
      refine (X15.out _ HX4.out).mono ?_
      rintro r wF ⟨rfl, hbF⟩
      have HFIN := Lib.hid (HBB.out.trans ((HX4.out.trans (hbF.mono HX4.out.size)).mono HBB.out.size))
      clear hbF
      go_wp2
      go_ret
      exact ⟨rfl, HFIN.out⟩
  case neg =>
    have hq : (R == 0) = false := beq_eq_false_iff_ne.2 hR0
    have HA := HB5
    have HE := HE5
    clear hR0 C23e ps1 C22
    go_wp2_with fail
    refine (C23.out _ HA.out).mono ?_
    rintro r wB (⟨rfl, hbB⟩ | ⟨gr, fr, at', td, h1, h2, h3, h4, h5, es, ⟨lx, cx, rfl, hEx, hbB⟩, hRx, hlx, htx⟩)
    · have hbZ := hbB.alloc hbB.size (.cells #[.int .i64 0, .int .i64 0, .bool false, .int .i64 0, .string ⟨#[]⟩, .string ⟨#[]⟩, .string ⟨#[]⟩, .string ⟨#[]⟩, .slice none 0 0, .string ⟨#[]⟩] 24)
      have HBZ := Lib.hid (HA.out.trans (hbZ.mono HA.out.size))
      obtain ⟨zZ, y0, y1, y2, y3, y4, y5, y6, y7, y8, y9⟩ := ten_below HE.out hbZ
      clear hbB hbZ
      go_wp2_with fail
      refine (C15.out _ HBZ.out).mono ?_
      rintro r wC ⟨rfl, hbC⟩
      have HBC := Lib.hid (HBZ.out.trans (hbC.mono HBZ.out.size))
      clear hbC
      go_wp2
      go_ret
      exact ⟨rfl, HBC.out⟩
    · obtain ⟨hh, e1⟩ : ∃ x, bytes h1 = x := ⟨_, rfl⟩
      obtain ⟨ha, e2⟩ : ∃ x, bytes h2 = x := ⟨_, rfl⟩
      obtain ⟨hp, e3⟩ : ∃ x, bytes h3 = x := ⟨_, rfl⟩
      obtain ⟨hi, e4⟩ : ∃ x, bytes h4 = x := ⟨_, rfl⟩
      obtain ⟨hx, e5⟩ : ∃ x, bytes h5 = x := ⟨_, rfl⟩
      have z5 : hx.size ≤ s.size := by rw [← e5, bytes_size]; exact htx
      rw [e1, e2, e3, e4, e5] at hRx ⊢
      clear e1 e2 e3 e4 e5 htx
      obtain ⟨_, _, _, ⟨wo1, wo2, wo3, wo4⟩, _⟩ := right_parts hRx
      have s1 := word_len wo1 (by decide)
      have s2 := word_len wo2 (by decide)
      have s3 := word_len wo3 (by decide)
      have s4 := word_len wo4 (by decide)
      have hIx : Ev.In ⟨gr, fr, td, at', hh, ha, hp, hi, es, hx⟩ wB (.slice lx es.length cx) := ⟨hEx, fit_of_len (es := es) (by omega), by show hh.size ≤ _; omega, by show ha.size ≤ _; omega, by show hp.size ≤ _; omega, by show hi.size ≤ _; omega, by show hx.size ≤ _; omega⟩
      have HBB := Lib.hid (HA.out.trans (hbB.mono HA.out.size))
      have X11 : Hid (∀ W, Below wB.heap.size wB W → Calls Tryz.prog 11 #[.agg #[.int .i64 gr, .int .i64 fr, .bool td, .int .i64 at', .string hh, .string ha, .string hp, .string hi, .slice lx es.length cx, .string hx]] W fun r w' => ∃ S, PrintS ⟨gr, fr, td, at', hh, ha, hp, hi, es, hx⟩ S ∧ r = .returned (.tuple #[.string S, .int .i64 0]) ∧ Below W.heap.size W w') := Lib.hid fun W hW => (print_any ⟨gr, fr, td, at', hh, ha, hp, hi, es, hx⟩ (.slice lx es.length cx) W (hS.out.below (HBB.out.trans (hW.mono HBB.out.size))) (hP.out.below (HBB.out.trans (hW.mono HBB.out.size))) (hIx.below hW) (by show (elmsT es).length ≤ _; omega) (by show hx.size ≤ _; omega)).mono fun r w' hh' => by
        obtain ⟨S, k1, k2, k3⟩ := printS_any hh'
        exact ⟨S, k1, by rw [← hRx]; exact k2, k3⟩
      have X15 : Hid (∀ W, Below wB.heap.size wB W → Calls Tryz.prog 15 #[.agg #[.int .i64 gr, .int .i64 fr, .bool td, .int .i64 at', .string hh, .string ha, .string hp, .string hi, .slice lx es.length cx, .string hx]] W fun e w' => e = .returned (.int .i64 0) ∧ Below W.heap.size W w') := Lib.hid fun W hW => by
        have k := right_any ⟨gr, fr, td, at', hh, ha, hp, hi, es, hx⟩ (.slice lx es.length cx) W (hS.out.below (HBB.out.trans (hW.mono HBB.out.size))) (hIx.below hW)
        rw [hRx] at k
        exact k
      have X23 : Hid (∀ S, PrintS ⟨gr, fr, td, at', hh, ha, hp, hi, es, hx⟩ S → ∀ W, Below wB.heap.size wB W → Calls Tryz.prog 23 #[.string S] W fun e w' => ∃ ly cy, e = .returned (.tuple #[.agg #[.int .i64 gr, .int .i64 fr, .bool td, .int .i64 at', .string hh, .string ha, .string hp, .string hi, .slice ly es.length cy, .string hx], .int .i64 0]) ∧ ElmsAt w' (.slice ly es.length cy) es ∧ Below W.heap.size W w') := Lib.hid fun S hPS W hW => by
        rcases hPS with ⟨k, _⟩ | ⟨_, T, hT, rfl⟩
        · exact absurd hRx k
        · have k := parse_printed gr fr at' td hh ha hp hi hx es T W (hS.out.below (HBB.out.trans (hW.mono HBB.out.size))) (hm.out.below (HBB.out.trans (hW.mono HBB.out.size))) (hP.out.below (HBB.out.trans (hW.mono HBB.out.size))) hRx hT (by omega) (by omega)
          unfold GoodAns at k
          simp only [bytes_self] at k
          exact k
      have X22 : Hid (∀ ly cy W, Below wB.heap.size wB W → ElmsAt W (.slice ly es.length cy) es → Calls Tryz.prog 22 #[.agg #[.int .i64 gr, .int .i64 fr, .bool td, .int .i64 at', .string hh, .string ha, .string hp, .string hi, .slice lx es.length cx, .string hx], .agg #[.int .i64 gr, .int .i64 fr, .bool td, .int .i64 at', .string hh, .string ha, .string hp, .string hi, .slice ly es.length cy, .string hx]] W fun e w' => e = .returned (.bool true) ∧ Below W.heap.size W w') := Lib.hid fun ly cy W hW hY =>
        (same_any ⟨gr, fr, td, at', hh, ha, hp, hi, es, hx⟩ ⟨gr, fr, td, at', hh, ha, hp, hi, es, hx⟩ _ _ W (hIx.below hW).data hY hIx.fits).mono fun e w' ⟨b, k1, k2, k3⟩ => ⟨by rw [← k2.2 rfl]; exact k1, k3⟩
      have hb1 := (Below.refl wB.heap.size wB).alloc (Nat.le_refl _) (.cells #[.int .i64 gr, .int .i64 fr, .bool td, .int .i64 at', .string hh, .string ha, .string hp, .string hi, .slice lx es.length cx, .string hx] 24)
      have HX1 := Lib.hid hb1
      have hX1 : TenAt wB.heap.size gr fr td at' hh ha hp hi (.slice lx es.length cx) hx (wB.alloc (.cells #[.int .i64 gr, .int .i64 fr, .bool td, .int .i64 at', .string hh, .string ha, .string hp, .string hi, .slice lx es.length cx, .string hx] 24)) := by
        refine ⟨by simp, ?_, ?_, ?_, ?_, ?_, ?_, ?_, ?_, ?_, ?_⟩ <;> simp [go_sem]
      have HTX := Lib.hid hX1
      clear hEx hRx hlx z5 wo1 wo2 wo3 wo4 s1 s2 s3 s4 hIx hbB hb1 hX1
      go_wp2_with fail
      refine (X11.out _ HX1.out).mono ?_
      rintro r wC ⟨S2, ps2, rfl, hbC⟩
      have HX2 := Lib.hid (HX1.out.trans (hbC.mono HX1.out.size))
      have HTX2 := Lib.hid (ten_below HTX.out hbC)
      have X23' := Lib.hid (X23.out S2 ps2)
      clear hbC ps2 X11 X23
      go_wp2_with fail
      refine (X23'.out _ HX2.out).mono ?_
      rintro r wD ⟨ly, cy, rfl, hEy, hbD⟩
      have hbY := hbD.alloc hbD.size (.cells #[.int .i64 gr, .int .i64 fr, .bool td, .int .i64 at', .string hh, .string ha, .string hp, .string hi, .slice ly es.length cy, .string hx] 24)
      have HX3 := Lib.hid (HX2.out.trans (hbY.mono HX2.out.size))
      have HEY := Lib.hid (hEy.below ((Below.refl wD.heap.size wD).alloc (Nat.le_refl _) (.cells #[.int .i64 gr, .int .i64 fr, .bool td, .int .i64 at', .string hh, .string ha, .string hp, .string hi, .slice ly es.length cy, .string hx] 24)))
      have hT3 := ten_below HTX2.out hbY
      have HTX3 := Lib.hid hT3
      obtain ⟨zX, x0, x1, x2, x3, x4, x5, x6, x7, x8, x9⟩ := hT3
      clear hEy hbD hbY X23'
      go_wp2_with fail
      refine (X22.out _ _ _ HX3.out HEY.out).mono ?_
      rintro r wE ⟨rfl, hbE⟩
      have HX4 := Lib.hid (HX3.out.trans (hbE.mono HX3.out.size))
      clear x0 x1 x2 x3 x4 x5 x6 x7 x8 x9 zX
      obtain ⟨zX, x0, x1, x2, x3, x4, x5, x6, x7, x8, x9⟩ := ten_below HTX3.out hbE
      clear hbE X22
      go_wp2_with fail
      refine (X15.out _ HX4.out).mono ?_
      rintro r wF ⟨rfl, hbF⟩
      have HFIN := Lib.hid (HBB.out.trans ((HX4.out.trans (hbF.mono HX4.out.size)).mono HBB.out.size))
      clear hbF
      go_wp2
      go_ret
      exact ⟨rfl, HFIN.out⟩
end Go.Proofs.YtnaijahhogndjaaGreatDoor.syslBack
