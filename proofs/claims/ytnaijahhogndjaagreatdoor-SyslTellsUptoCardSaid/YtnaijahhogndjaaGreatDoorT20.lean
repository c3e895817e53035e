/- The texts RefPrintC, one behind the other. -/
import Derived.Test.YtnaijahhogndjaaGreatDoorT17
import Derived.Test.YtnaijahhogndjaaGreatDoorT19
/- What the document's own Print answers of a right event: its time told, with elements. -/
namespace Go.Proofs.YtnaijahhogndjaaGreatDoor
open Go.ChangeShapes Go.WideShapes Go.ChangeAt Go.RowKit

set_option maxHeartbeats 32000000 in
set_option maxRecDepth 100000 in
theorem refPrint_t_some (g f a : Int) (ho ap pr id tx : ByteArray) (da : List Elm) (la : Option Addr) (lc : Nat) (w : World) (g1 : 0 ≤ g) (g2 : g ≤ 7) (f1 : 0 ≤ f) (f2 : f ≤ 23)
    (hR : ∀ W, Below w.heap.size w W → Calls Tryz.prog 16 #[.agg #[.int .i64 g, .int .i64 f, .bool true, .int .i64 a, .string ho, .string ap, .string pr, .string id, .slice la da.length lc, .string tx]] W fun r w' => r = .returned (.int .i64 0) ∧ Below W.heap.size W w') (hda : da ≠ []) (hE : ElmsAt w (.slice la da.length lc) da) (hfit : ElmsFit da) (hl : (elmsT da).length ≤ 35184372088832) 
    (z1 : ho.size ≤ 1048576) (z2 : ap.size ≤ 1048576) (z3 : pr.size ≤ 1048576) (z4 : id.size ≤ 1048576) (z5 : tx.size ≤ 70368744177664) :
    Calls Tryz.prog 12 #[.agg #[.int .i64 g, .int .i64 f, .bool true, .int .i64 a, .string ho, .string ap, .string pr, .string id, .slice la da.length lc, .string tx]] w fun r w' => (∃ T, TimeIs true a T ∧ r = .returned (.tuple #[.string (bytes (headT g f T ho ap pr id ++ (elmsT da ++ behindT tx.data.toList))), .int .i64 0])) ∧ Below w.heap.size w w' := by
  obtain ⟨D, hD⟩ : ∃ D, bytes (Lib.decDigits (8 * f + g).toNat) = D := ⟨_, rfl⟩
  obtain ⟨O1, o1⟩ : ∃ O, orB ho = O := ⟨_, rfl⟩
  obtain ⟨O2, o2⟩ : ∃ O, orB ap = O := ⟨_, rfl⟩
  obtain ⟨O3, o3⟩ : ∃ O, orB pr = O := ⟨_, rfl⟩
  obtain ⟨O4, o4⟩ : ∃ O, orB id = O := ⟨_, rfl⟩
  have s0 : D.size ≤ 3 := by rw [← hD, bytes_size]; exact dec_len _ (by omega)
  have s1 : O1.size ≤ 1048577 := by rw [← o1]; have := orB_size ho; omega
  have s2 : O2.size ≤ 1048577 := by rw [← o2]; have := orB_size ap; omega
  have s3 : O3.size ≤ 1048577 := by rw [← o3]; have := orB_size pr; omega
  have s4 : O4.size ≤ 1048577 := by rw [← o4]; have := orB_size id; omega
  have HD := Lib.hid hD
  have HW := Lib.hid (show IntKind.i64.wrap (IntKind.i64.wrap (8 * f) + g) = 8 * f + g by rw [wrap_in (x := 8 * f) (by omega) (by omega), wrap_in (by omega) (by omega)])
  have H1 := Lib.hid o1
  have H2 := Lib.hid o2
  have H3 := Lib.hid o3
  have H4 := Lib.hid o4
  have HR := Lib.hid hR
  have hS0 : Pev w w.heap.size g f ho ap pr id tx (.slice la da.length lc) (w.alloc (.cells #[.int .i64 g, .int .i64 f, .bool true, .int .i64 a, .string ho, .string ap, .string pr, .string id, .slice la da.length lc, .string tx] 24)) :=
    ⟨by simp [go_sem], by simp [go_sem], by simp [go_sem], by simp [go_sem], by simp [go_sem], by simp [go_sem], by simp [go_sem], by simp [go_sem], by simp, (Below.refl _ _).alloc (Nat.le_refl _) _⟩
  have c2 : ((w.alloc (.cells #[.int .i64 g, .int .i64 f, .bool true, .int .i64 a, .string ho, .string ap, .string pr, .string id, .slice la da.length lc, .string tx] 24))).cell? ⟨w.heap.size, 2, none⟩ = some (.bool true) := by simp [go_sem]
  have c3 : ((w.alloc (.cells #[.int .i64 g, .int .i64 f, .bool true, .int .i64 a, .string ho, .string ap, .string pr, .string id, .slice la da.length lc, .string tx] 24))).cell? ⟨w.heap.size, 3, none⟩ = some (.int .i64 a) := by simp [go_sem]
  have HS0 := Lib.hid hS0
  have HC2 := Lib.hid c2
  have HC3 := Lib.hid c3
  have HE := Lib.hid hE
  have HFIT := Lib.hid hfit.2
  have hdl : da.length ≤ 17592186044416 := hfit.1
  have hdp : 0 < da.length := List.length_pos_iff.2 hda
  clear hE hfit hda
  clear hD o1 o2 o3 o4 hR hS0 c2 c3
  go_enter Tryz.func12, Tryz.ntmps12
  go_wp2_with fail
  refine (HR.out _ HS0.out.2.2.2.2.2.2.2.2.2).mono ?_
  rintro r w2 ⟨rfl, hb2⟩
  have HS2 := Lib.hid (pev_next HS0.out hb2)
  have d2 : w2.cell? ⟨w.heap.size, 2, none⟩ = some (.bool true) := ((bcell hb2).1 _ _ HS0.out.2.2.2.2.2.2.2.2.1).trans HC2.out
  have d3 : w2.cell? ⟨w.heap.size, 3, none⟩ = some (.int .i64 a) := ((bcell hb2).1 _ _ HS0.out.2.2.2.2.2.2.2.2.1).trans HC3.out
  clear hb2
  go_wp2_with fail
  refine (Cal.rdate_any a _).mono ?_
  rintro r w3 ⟨y, mo, d, h, mi, s, k, rfl, hDI, hb3⟩
  have HS3 := Lib.hid (pev_next HS2.out hb3)
  obtain ⟨A, hA⟩ : ∃ A, bytes (Cal.dateText y mo d h mi s k 0) = A := ⟨_, rfl⟩
  have hT : TimeIs true a (Cal.dateText y mo d h mi s k 0) := .inr ⟨rfl, y, mo, d, h, mi, s, k, hDI, rfl⟩
  have sA : A.size ≤ 64 := by rw [← hA, bytes_size]; exact time_len hT
  have HTX := Lib.hid (fun W => show Calls Tryz.prog 32 #[.agg #[.int .i64 y, .int .i64 mo, .int .i64 d, .int .i64 h, .int .i64 mi, .int .i64 s, .int .i64 k, .int .i64 0]] W fun e w' => e = .returned (.tuple #[.string A, .int .i64 0]) ∧ Below W.heap.size W w' by rw [← hA]; exact Cal.rtext_yes y mo d h mi s k 0 W hDI.1)
  obtain ⟨T, hTT⟩ : ∃ T, Cal.dateText y mo d h mi s k 0 = T := ⟨_, rfl⟩
  rw [hTT] at hT hA
  have HT := Lib.hid hT
  have HA := Lib.hid hA
  clear hb3 hDI hT hA hTT d2 d3
  go_wp2_with fail
  refine (HTX.out _).mono ?_
  rintro r w4 ⟨rfl, hb4⟩
  have HS4 := Lib.hid (pev_next HS3.out hb4)
  clear hb4 HTX HS3
  go_wp2_with fail
  have q0 : ¬ 9223372036854775807 < 1 + D.size := by omega
  have q1 : ¬ 9223372036854775807 < 1 + D.size + 3 := by omega
  have q2 : ¬ 9223372036854775807 < 1 + D.size + 3 + A.size := by omega
  have q3 : ¬ 9223372036854775807 < 1 + D.size + 3 + A.size + 1 := by omega
  have q4 : ¬ 9223372036854775807 < 1 + D.size + 3 + A.size + 1 + O1.size := by omega
  have q5 : ¬ 9223372036854775807 < 1 + D.size + 3 + A.size + 1 + O1.size + 1 := by omega
  have q6 : ¬ 9223372036854775807 < 1 + D.size + 3 + A.size + 1 + O1.size + 1 + O2.size := by omega
  have q7 : ¬ 9223372036854775807 < 1 + D.size + 3 + A.size + 1 + O1.size + 1 + O2.size + 1 := by omega
  have q8 : ¬ 9223372036854775807 < 1 + D.size + 3 + A.size + 1 + O1.size + 1 + O2.size + 1 + O3.size := by omega
  have q9 : ¬ 9223372036854775807 < 1 + D.size + 3 + A.size + 1 + O1.size + 1 + O2.size + 1 + O3.size + 1 := by omega
  have q10 : ¬ 9223372036854775807 < 1 + D.size + 3 + A.size + 1 + O1.size + 1 + O2.size + 1 + O3.size + 1 + O4.size := by omega
  have q11 : ¬ 9223372036854775807 < 1 + D.size + 3 + A.size + 1 + O1.size + 1 + O2.size + 1 + O3.size + 1 + O4.size + 1 := by omega
  go_region_held3 (fun w' => Pev w w.heap.size g f ho ap pr id tx (.slice la da.length lc) w')
    (first
      | assumption
      | exact pev_next (by assumption) (by assumption)
      | exact pev_drew HS4.out 1
      | exact HS4.out)
    (first
      | (go_at_call 34; (with_reducible refine (dec_e HW.out HD.out (by omega) (by omega)).mono ?_); rintro e w' ⟨rfl, hbx⟩)
      | (go_at_call 35; (with_reducible refine (or_t (s := ho) H1.out).mono ?_); rintro e w' ⟨rfl, rfl⟩)
      | (go_at_call 35; (with_reducible refine (or_t (s := ap) H2.out).mono ?_); rintro e w' ⟨rfl, rfl⟩)
      | (go_at_call 35; (with_reducible refine (or_t (s := pr) H3.out).mono ?_); rintro e w' ⟨rfl, rfl⟩)
      | (go_at_call 35; (with_reducible refine (or_t (s := id) H4.out).mono ?_); rintro e w' ⟨rfl, rfl⟩))
  have hhd := head_is (g := g) (f := f) HD.out HA.out H1.out H2.out H3.out H4.out
  rename World => w5
  have P5 : Pev w w.heap.size g f ho ap pr id tx (.slice la da.length lc) w5 := by assumption
  have lH : (headT g f T ho ap pr id).length ≤ 5000000 := by
    have e := congrArg ByteArray.size hhd
    rw [bytes_size] at e
    have y1 : (⟨#[60]⟩ : ByteArray).size = 1 := rfl
    have y2 : (⟨#[62, 49, 32]⟩ : ByteArray).size = 3 := rfl
    have y3 : (⟨#[45]⟩ : ByteArray).size = 1 := rfl
    have y4 : (⟨#[32]⟩ : ByteArray).size = 1 := rfl
    rw [← e]
    simp only [ByteArray.size_append]
    omega
  rw [hhd]
  obtain ⟨H, hH⟩ : ∃ H, headT g f T ho ap pr id = H := ⟨_, rfl⟩
  rw [hH] at lH ⊢
  have HH := Lib.hid hH
  have HP5 := Lib.hid P5
  obtain ⟨j0, j1, j4, j5, j6, j7, j8, j9, jz, jB⟩ := P5
  have nq : (((da.length : Nat) : Int) == 0) = false := beq_eq_false_iff_ne.2 (by omega)
  clear hhd hH HD HW H1 H2 H3 H4 HR HS0 HC2 HC3 s0 s1 s2 s3 s4 q0 q1 q2 q3 q4 q5 q6 q7 q8 q9 q10 q11 
  go_wp2
  go_loopw [6, 7] (fun s i wr => ∃ k : Nat, k ≤ da.length ∧ i = .int .i64 k ∧ s = .string (bytes (H ++ elmsT (da.take k))) ∧ Pev w w.heap.size g f ho ap pr id tx (.slice la da.length lc) wr) (fun _ i _ => da.length - (intOf i).toNat)
  case atStart => exact ⟨0, Nat.zero_le _, rfl, by simp [elmsT], HP5.out⟩
  case round =>
    obtain ⟨k, hk, rfl, rfl, hP⟩ := hrel
    have hBw := hP.2.2.2.2.2.2.2.2.2
    have j8 := hP.2.2.2.2.2.2.1
    obtain ⟨S0, hS0⟩ : ∃ S, bytes (H ++ elmsT (da.take k)) = S := ⟨_, rfl⟩
    rw [hS0]
    by_cases hlt : k < da.length
    · obtain ⟨x, hx⟩ : ∃ x, da[k]? = some x := ⟨da[k]'hlt, List.getElem?_eq_getElem _⟩
      obtain ⟨la', ca', e0, hma⟩ := HE.out
      cases e0
      obtain ⟨b1, o1, rfl, hl1, hc1⟩ := hma (by omega)
      obtain ⟨v1, c1, c2, hp1⟩ := hc1 k x hx
      obtain ⟨s1', n1, rfl, hq1⟩ := hp1
      rw [Nat.mul_comm 2 k] at c1 c2
      have d1 : wr.cell? ⟨b1, o1 + k * 2, none⟩ = some (.string x.1) := (hBw.cell (p := ⟨b1, o1 + k * 2, none⟩) hl1).trans c1
      have z2 : ∀ W, Below w.heap.size w W → W.cell? ⟨b1, o1 + k * 2 + 1, none⟩ = some (.slice s1' x.2.length n1) := fun W hW => (hW.cell (p := ⟨b1, o1 + k * 2 + 1, none⟩) hl1).trans c2
      have Z2 := Lib.hid z2
      have hpart := elmsT_part hx
      have hel : (elmT x).length = x.1.size + (prmsT x.2).length + 2 := by unfold elmT; simp [list_size]; omega
      have szS : S0.size ≤ 35184377088832 := by rw [← hS0, bytes_size, List.length_append]; omega
      have hxl : x.2.length ≤ 17592186044416 := (HFIT.out x (List.mem_of_getElem? hx)).2.1
      have m1 : ¬ 9223372036854775807 < S0.size + 1 := by omega
      have m2 : ¬ 9223372036854775807 < S0.size + 1 + x.1.size := by omega
      have hvx : (prmsT x.2).length ≤ 35184372088832 := by omega
      obtain ⟨P0, hP0⟩ : ∃ P, H ++ elmsT (da.take k) ++ 91 :: x.1.data.toList = P := ⟨_, rfl⟩
      have hse : S0 ++ ⟨#[91]⟩ ++ x.1 = bytes P0 := by rw [elm_is hS0, hP0]
      have szP : P0.length + (prmsT x.2).length ≤ 35184377088832 := by rw [← hP0]; simp [list_size]; omega
      have HSE := Lib.hid hse
      have HP0 := Lib.hid hP0
      have HX := Lib.hid hx
      have HPW := Lib.hid hP
      clear hma hc1 c1 c2 hx hse hP hP0 z2 hpart
      go_wp2
      clear m1 m2 d1 j8
      go_loopw [6, 8] (fun s j wy => ∃ m : Nat, m ≤ x.2.length ∧ j = .int .i64 m ∧ s = .string (bytes (P0 ++ prmsT (x.2.take m))) ∧ Pev w w.heap.size g f ho ap pr id tx (.slice (some ⟨b1, o1, none⟩) da.length lc) wy) (fun _ j _ => x.2.length - (intOf j).toNat)
      case atStart => exact ⟨0, Nat.zero_le _, rfl, by rw [HSE.out]; simp [prmsT], HPW.out⟩
      case round =>
        obtain ⟨m, hm, rfl, rfl, hPy⟩ := hrel
        have c2 := Z2.out _ hPy.2.2.2.2.2.2.2.2.2
        have j8 := hPy.2.2.2.2.2.2.1
        obtain ⟨S, hS⟩ : ∃ S, bytes (P0 ++ prmsT (x.2.take m)) = S := ⟨_, rfl⟩
        rw [hS]
        by_cases hmt : m < x.2.length
        · obtain ⟨p, hp⟩ : ∃ p, x.2[m]? = some p := ⟨x.2[m]'hmt, List.getElem?_eq_getElem _⟩
          obtain ⟨pb1, po1, hs1, pl1, pc1⟩ := hq1 (by omega)
          subst hs1
          have p1 := (hPy.2.2.2.2.2.2.2.2.2.cell (p := ⟨pb1, po1 + 2 * m, none⟩) pl1).trans (pc1 m p hp).1
          have p2 := (hPy.2.2.2.2.2.2.2.2.2.cell (p := ⟨pb1, po1 + 2 * m + 1, none⟩) pl1).trans (pc1 m p hp).2
          rw [Nat.mul_comm 2 m] at p1 p2
          have hpp := prmsT_part hp
          obtain ⟨V, hV⟩ : ∃ V, bytes (valueL p.2.data.toList) = V := ⟨_, rfl⟩
          have hvl : V.size = (valueL p.2.data.toList).length := by rw [← hV, bytes_size]
          have hpe : (prmT p).length = p.1.size + V.size + 4 := by unfold prmT; rw [hvl]; simp [list_size]; omega
          have hv2 := (valueL_length p.2.data.toList).1
          rw [list_size] at hv2
          have szS2 : S.size ≤ 35184377088832 := by rw [← hS, bytes_size, List.length_append]; omega
          have HV := Lib.hid (fun W => show Calls Tryz.prog 18 #[.string p.2] W fun e w' => e = .returned (.string V) ∧ Below W.heap.size W w' by rw [← hV]; exact refValue_any p.2 W (by omega))
          have r1 : ¬ 9223372036854775807 < S.size + 1 := by omega
          have r2 : ¬ 9223372036854775807 < S.size + 1 + p.1.size := by omega
          have r3 : ¬ 9223372036854775807 < S.size + 1 + p.1.size + 1 := by omega
          have r4 : ¬ 9223372036854775807 < S.size + 1 + p.1.size + 1 + 1 := by omega
          have r5 : ¬ 9223372036854775807 < S.size + 1 + p.1.size + 1 + 1 + V.size := by omega
          have r6 : ¬ 9223372036854775807 < S.size + 1 + p.1.size + 1 + 1 + V.size + 1 := by omega
          have hnx : S ++ ⟨#[32]⟩ ++ p.1 ++ ⟨#[61]⟩ ++ ⟨#[34]⟩ ++ V ++ ⟨#[34]⟩ = bytes (P0 ++ prmsT (x.2.take (m + 1))) := by
            rw [prm_is hS hV, prmsT_take hp, List.append_assoc]
            rfl
          have HNX := Lib.hid hnx
          clear pc1 hp hpp hvl hpe hv2 hS hV hnx hq1
          have L1 : b1 < w.heap.size := hl1
          have L2 : pb1 < w.heap.size := pl1
          have hLev : Lev w w.heap.size g f ho ap pr id tx (.slice (some ⟨b1, o1, none⟩) da.length lc) b1 (o1 + k * 2 + 1) pb1 (po1 + m * 2) (.slice (some ⟨pb1, po1, none⟩) x.2.length n1) p.1 p.2 wr := ⟨hPy, c2, p1, p2⟩
          have hLevd := lev_next L1 L2 hLev (drewN_b wr 1)
          go_wp2_with fail
          refine wp_region_held_drew (S := fun W' => Lev w w.heap.size g f ho ap pr id tx (.slice (some ⟨b1, o1, none⟩) da.length lc) b1 (o1 + k * 2 + 1) pb1 (po1 + m * 2) (.slice (some ⟨pb1, po1, none⟩) x.2.length n1) p.1 p.2 W') (by kernel_rfl) (show Lev w w.heap.size g f ho ap pr id tx (.slice (some ⟨b1, o1, none⟩) da.length lc) b1 (o1 + k * 2 + 1) pb1 (po1 + m * 2) (.slice (some ⟨pb1, po1, none⟩) x.2.length n1) p.1 p.2 wr.drew from hLevd) (fun hHeld => ?_)
          refine wpAnyH_take (i := 0) (v := ?_) rfl (by kernel_rfl) (by kernel_rfl) (by kernel_rfl) (fun _ _ _ h => h) (Or.inl ⟨by rfl, ?_⟩) (by assumption) ?_
          rotate_left
          · intro W hSw; (try dsimp only at hSw); go_simp; first | done | with_reducible rfl
          try simp only [Act.put, List.getElem_toArray, List.getElem_cons_zero, List.getElem_cons_succ, List.setIfInBounds_toArray, List.set_cons_zero, List.set_cons_succ]
          refine wpAnyH_take (i := 1) (v := ?_) rfl (by kernel_rfl) (by kernel_rfl) (by kernel_rfl) (fun _ _ _ h => h) (Or.inl ⟨by rfl, ?_⟩) (by assumption) ?_
          rotate_left
          · intro W hSw; (try dsimp only at hSw); go_simp; first | done | with_reducible rfl
          try simp only [Act.put, List.getElem_toArray, List.getElem_cons_zero, List.getElem_cons_succ, List.setIfInBounds_toArray, List.set_cons_zero, List.set_cons_succ]
          refine wpAnyH_take (i := 2) (v := ?_) rfl (by kernel_rfl) (by kernel_rfl) (by kernel_rfl) (fun _ _ _ h => h) (Or.inl ⟨by rfl, ?_⟩) (by assumption) ?_
          rotate_left
          · intro W hSw; (try dsimp only at hSw); go_simp; first | done | with_reducible rfl
          try simp only [Act.put, List.getElem_toArray, List.getElem_cons_zero, List.getElem_cons_succ, List.setIfInBounds_toArray, List.set_cons_zero, List.set_cons_succ]
          refine wpAnyH_take (i := 3) (v := ?_) rfl (by kernel_rfl) (by kernel_rfl) (by kernel_rfl) (fun _ _ _ h => h) (Or.inl ⟨by rfl, ?_⟩) (by assumption) ?_
          rotate_left
          · intro W hSw; (try dsimp only at hSw); go_simp; first | done | with_reducible rfl
          try simp only [Act.put, List.getElem_toArray, List.getElem_cons_zero, List.getElem_cons_succ, List.setIfInBounds_toArray, List.set_cons_zero, List.set_cons_succ]
          refine wpAnyH_take (i := 4) (v := ?_) rfl (by kernel_rfl) (by kernel_rfl) (by kernel_rfl) (fun _ _ _ h => h) (Or.inl ⟨by rfl, ?_⟩) (by assumption) ?_
          rotate_left
          · intro W hSw; (try dsimp only at hSw); go_simp; first | done | with_reducible rfl
          try simp only [Act.put, List.getElem_toArray, List.getElem_cons_zero, List.getElem_cons_succ, List.setIfInBounds_toArray, List.set_cons_zero, List.set_cons_succ]
          refine wpAnyH_take (i := 5) (v := ?_) rfl (by kernel_rfl) (by kernel_rfl) (by kernel_rfl) (fun _ _ _ h => h) (Or.inl ⟨by rfl, ?_⟩) (by assumption) ?_
          rotate_left
          · intro W hSw; (try dsimp only at hSw); go_simp; first | done | with_reducible rfl
          try simp only [Act.put, List.getElem_toArray, List.getElem_cons_zero, List.getElem_cons_succ, List.setIfInBounds_toArray, List.set_cons_zero, List.set_cons_succ]
          refine wpAnyH_take (i := 6) (v := ?_) rfl (by kernel_rfl) (by kernel_rfl) (by kernel_rfl) (fun _ _ _ h => h) (Or.inl ⟨by rfl, ?_⟩) (by assumption) ?_
          rotate_left
          · intro W hSw; (try dsimp only at hSw); go_simp; first | done | with_reducible rfl
          try simp only [Act.put, List.getElem_toArray, List.getElem_cons_zero, List.getElem_cons_succ, List.setIfInBounds_toArray, List.set_cons_zero, List.set_cons_succ]
          refine wpAnyH_take (i := 7) (v := ?_) rfl (by kernel_rfl) (by kernel_rfl) (by kernel_rfl) (fun _ _ _ h => h) (Or.inl ⟨by rfl, ?_⟩) (by assumption) ?_
          rotate_left
          · intro W hSw; (try dsimp only at hSw); go_simp; first | done | with_reducible rfl
          try simp only [Act.put, List.getElem_toArray, List.getElem_cons_zero, List.getElem_cons_succ, List.setIfInBounds_toArray, List.set_cons_zero, List.set_cons_succ]
          refine wpAnyH_take (i := 8) (v := ?_) rfl (by kernel_rfl) (by kernel_rfl) (by kernel_rfl) (fun _ _ _ h => h) (Or.inl ⟨by rfl, ?_⟩) (by assumption) ?_
          rotate_left
          · intro W hSw; (try dsimp only at hSw); go_simp; first | done | with_reducible rfl
          try simp only [Act.put, List.getElem_toArray, List.getElem_cons_zero, List.getElem_cons_succ, List.setIfInBounds_toArray, List.set_cons_zero, List.set_cons_succ]
          refine wpAnyH_take (i := 9) (v := ?_) rfl (by kernel_rfl) (by kernel_rfl) (by kernel_rfl) (fun _ _ _ h => h) (Or.inl ⟨by rfl, ?_⟩) (by assumption) ?_
          rotate_left
          · intro W hSw; (try dsimp only at hSw); go_simp; first | done | with_reducible rfl
          try simp only [Act.put, List.getElem_toArray, List.getElem_cons_zero, List.getElem_cons_succ, List.setIfInBounds_toArray, List.set_cons_zero, List.set_cons_succ]
          refine wpAnyH_take (i := 10) (v := ?_) rfl (by kernel_rfl) (by kernel_rfl) (by kernel_rfl) (fun _ _ _ h => h) (Or.inl ⟨by rfl, ?_⟩) (by assumption) ?_
          rotate_left
          · intro W hSw; (try dsimp only at hSw); go_simp; first | done | with_reducible rfl
          try simp only [Act.put, List.getElem_toArray, List.getElem_cons_zero, List.getElem_cons_succ, List.setIfInBounds_toArray, List.set_cons_zero, List.set_cons_succ]
          refine wpAnyH_take (i := 11) (v := ?_) rfl (by kernel_rfl) (by kernel_rfl) (by kernel_rfl) (fun _ _ _ h => h) (Or.inl ⟨by rfl, ?_⟩) (by assumption) ?_
          rotate_left
          · intro W hSw; (try dsimp only at hSw); go_simp; first | done | with_reducible rfl
          try simp only [Act.put, List.getElem_toArray, List.getElem_cons_zero, List.getElem_cons_succ, List.setIfInBounds_toArray, List.set_cons_zero, List.set_cons_succ]
          refine wpAnyH_take (i := 12) (v := ?_) rfl (by kernel_rfl) (by kernel_rfl) (by kernel_rfl) (fun _ _ _ h => h) (Or.inl ⟨by rfl, ?_⟩) (by assumption) ?_
          rotate_left
          · intro W hSw; (try dsimp only at hSw); go_simp; first | done | with_reducible rfl
          try simp only [Act.put, List.getElem_toArray, List.getElem_cons_zero, List.getElem_cons_succ, List.setIfInBounds_toArray, List.set_cons_zero, List.set_cons_succ]
          refine wpAnyH_take (i := 13) (v := ?_) rfl (by kernel_rfl) (by kernel_rfl) (by kernel_rfl) (fun _ _ _ h => h) (Or.inl ⟨by rfl, ?_⟩) (by assumption) ?_
          rotate_left
          · intro W hSw; (try dsimp only at hSw); go_simp; first | done | with_reducible rfl
          try simp only [Act.put, List.getElem_toArray, List.getElem_cons_zero, List.getElem_cons_succ, List.setIfInBounds_toArray, List.set_cons_zero, List.set_cons_succ]
          refine wpAnyH_take (i := 17) (v := ?_) rfl (by kernel_rfl) (by kernel_rfl) (by kernel_rfl) (fun _ _ _ h => h) (Or.inl ⟨by rfl, ?_⟩) (by assumption) ?_
          rotate_left
          · intro W hSw; (try dsimp only at hSw); go_simp; first | done | with_reducible rfl
          try simp only [Act.put, List.getElem_toArray, List.getElem_cons_zero, List.getElem_cons_succ, List.setIfInBounds_toArray, List.set_cons_zero, List.set_cons_succ]
          refine wpAnyH_take (i := 18) (v := ?_) rfl (by kernel_rfl) (by kernel_rfl) (by kernel_rfl) (fun _ _ _ h => h) (Or.inl ⟨by rfl, ?_⟩) (by assumption) ?_
          rotate_left
          · intro W hSw; (try dsimp only at hSw); go_simp; first | done | with_reducible rfl
          try simp only [Act.put, List.getElem_toArray, List.getElem_cons_zero, List.getElem_cons_succ, List.setIfInBounds_toArray, List.set_cons_zero, List.set_cons_succ]
          refine wpAnyH_take (i := 19) (v := ?_) rfl (by kernel_rfl) (by kernel_rfl) (by kernel_rfl) (fun _ _ _ h => h) (Or.inl ⟨by rfl, ?_⟩) (by assumption) ?_
          rotate_left
          · intro W hSw; (try dsimp only at hSw); go_simp; first | done | with_reducible rfl
          try simp only [Act.put, List.getElem_toArray, List.getElem_cons_zero, List.getElem_cons_succ, List.setIfInBounds_toArray, List.set_cons_zero, List.set_cons_succ]
          refine wpAnyH_take (i := 20) (v := ?_) rfl (by kernel_rfl) (by kernel_rfl) (by kernel_rfl) (fun _ _ _ h => h) (Or.inl ⟨by rfl, ?_⟩) (by assumption) ?_
          rotate_left
          · intro W hSw; (try dsimp only at hSw); go_simp; first | done | with_reducible rfl
          try simp only [Act.put, List.getElem_toArray, List.getElem_cons_zero, List.getElem_cons_succ, List.setIfInBounds_toArray, List.set_cons_zero, List.set_cons_succ]
          refine wpAnyH_take (i := 21) (v := ?_) rfl (by kernel_rfl) (by kernel_rfl) (by kernel_rfl) (fun _ _ _ h => h) (Or.inl ⟨by rfl, ?_⟩) (by assumption) ?_
          rotate_left
          · intro W hSw; (try dsimp only at hSw); go_simp; first | done | with_reducible rfl
          try simp only [Act.put, List.getElem_toArray, List.getElem_cons_zero, List.getElem_cons_succ, List.setIfInBounds_toArray, List.set_cons_zero, List.set_cons_succ]
          refine wpAnyH_take (i := 22) (v := ?_) rfl (by kernel_rfl) (by kernel_rfl) (by kernel_rfl) (fun _ _ _ h => h) (Or.inl ⟨by rfl, ?_⟩) (by assumption) ?_
          rotate_left
          · intro W hSw; (try dsimp only at hSw); go_simp; first | done | with_reducible rfl
          try simp only [Act.put, List.getElem_toArray, List.getElem_cons_zero, List.getElem_cons_succ, List.setIfInBounds_toArray, List.set_cons_zero, List.set_cons_succ]
          refine wpAnyH_take (i := 23) (v := ?_) rfl (by kernel_rfl) (by kernel_rfl) (by kernel_rfl) (fun _ _ _ h => h) (Or.inl ⟨by rfl, ?_⟩) (by assumption) ?_
          rotate_left
          · intro W hSw; (try dsimp only at hSw); go_simp; first | done | with_reducible rfl
          try simp only [Act.put, List.getElem_toArray, List.getElem_cons_zero, List.getElem_cons_succ, List.setIfInBounds_toArray, List.set_cons_zero, List.set_cons_succ]
          refine wpAnyH_take (i := 24) (v := ?_) rfl (by kernel_rfl) (by kernel_rfl) (by kernel_rfl) (fun _ _ _ h => h) (Or.inl ⟨by rfl, ?_⟩) (by assumption) ?_
          rotate_left
          · intro W hSw; (try dsimp only at hSw); go_simp; first | done | with_reducible rfl
          try simp only [Act.put, List.getElem_toArray, List.getElem_cons_zero, List.getElem_cons_succ, List.setIfInBounds_toArray, List.set_cons_zero, List.set_cons_succ]
          refine wpAnyH_take (i := 25) (v := ?_) rfl (by kernel_rfl) (by kernel_rfl) (by kernel_rfl) (fun _ _ _ h => h) (Or.inl ⟨by rfl, ?_⟩) (by assumption) ?_
          rotate_left
          · intro W hSw; (try dsimp only at hSw); go_simp; first | done | with_reducible rfl
          try simp only [Act.put, List.getElem_toArray, List.getElem_cons_zero, List.getElem_cons_succ, List.setIfInBounds_toArray, List.set_cons_zero, List.set_cons_succ]
          refine wpAnyH_take (i := 26) (v := ?_) rfl (by kernel_rfl) (by kernel_rfl) (by kernel_rfl) (fun _ _ _ h => h) (Or.inl ⟨by rfl, ?_⟩) (by assumption) ?_
          rotate_left
          · intro W hSw; (try dsimp only at hSw); go_simp; first | done | with_reducible rfl
          try simp only [Act.put, List.getElem_toArray, List.getElem_cons_zero, List.getElem_cons_succ, List.setIfInBounds_toArray, List.set_cons_zero, List.set_cons_succ]
          refine wpAnyH_ready (rs := [14, 27, 29]) (by kernel_rfl) (by simp) ?_
          refine AllReadyH.cons rfl (fun K hK => ?_) (AllReadyH.cons rfl (fun K hK => ?_) (AllReadyH.cons rfl (fun K hK => ?_) AllReadyH.nil))
          · go_simp
            have hN1 := (Below.refl wr.drew.heap.size wr.drew).alloc (Nat.le_refl _) (.cells #[.int .u8 34] 5)
            refine hK.out _ _ (lev_next L1 L2 hHeld hN1) (fun hI1 => ?_)
            clear hK K
            refine wpAnyH_strong (S' := (fun W' => ((Lev w w.heap.size g f ho ap pr id tx (.slice (some ⟨b1, o1, none⟩) da.length lc) b1 (o1 + k * 2 + 1) pb1 (po1 + m * 2) (.slice (some ⟨pb1, po1, none⟩) x.2.length n1) p.1 p.2 W') ∧ QAt (wr.heap.size) W'))) (fun W' hh => hh.1) _ _ _ _ ?_
            have hH1 : (fun W' => ((Lev w w.heap.size g f ho ap pr id tx (.slice (some ⟨b1, o1, none⟩) da.length lc) b1 (o1 + k * 2 + 1) pb1 (po1 + m * 2) (.slice (some ⟨pb1, po1, none⟩) x.2.length n1) p.1 p.2 W') ∧ QAt (wr.heap.size) W')) (wr.drew.alloc (.cells #[.int .u8 34] 5)) := ⟨hI1, q_new _ _ _ (by simp)⟩
            refine wpAnyH_take (i := 15) (v := ?_) rfl (by kernel_rfl) (by kernel_rfl) (by kernel_rfl) (fun _ _ _ h => h) (Or.inl ⟨by rfl, ?_⟩) (by assumption) ?_
            rotate_left
            · intro W hSw; (try dsimp only at hSw); have hq := quote_string W _ hSw.2.1; go_simp; first | done | with_reducible rfl
            try simp only [Act.put, List.getElem_toArray, List.getElem_cons_zero, List.getElem_cons_succ, List.setIfInBounds_toArray, List.set_cons_zero, List.set_cons_succ]
            refine wpAnyH_take (i := 16) (v := ?_) rfl (by kernel_rfl) (by kernel_rfl) (by kernel_rfl) (fun _ _ _ h => h) (Or.inl ⟨by rfl, ?_⟩) (by assumption) ?_
            rotate_left
            · intro W hSw; (try dsimp only at hSw); go_simp; first | done | with_reducible rfl
            try simp only [Act.put, List.getElem_toArray, List.getElem_cons_zero, List.getElem_cons_succ, List.setIfInBounds_toArray, List.set_cons_zero, List.set_cons_succ]
            refine wpAnyH_ready (rs := [27, 29]) (by kernel_rfl) (by simp) ?_
            refine AllReadyH.cons rfl (fun K hK => ?_) (AllReadyH.cons rfl (fun K hK => ?_) AllReadyH.nil)
            · go_simp
              (go_at_call 18; refine (HV.out _).mono ?_; rintro e w2 ⟨rfl, hz2⟩)
              go_wp2_with fail
              refine hK.out _ _ ⟨(lev_next L1 L2 hH1.1 hz2), q_next hH1.2 hz2⟩ (fun hH2 => ?_)
              clear hK K
              refine wpAnyH_take (i := 28) (v := ?_) rfl (by kernel_rfl) (by kernel_rfl) (by kernel_rfl) (fun _ _ _ h => h) (Or.inl ⟨by rfl, ?_⟩) (by assumption) ?_
              rotate_left
              · intro W hSw; (try dsimp only at hSw); go_simp; first | done | with_reducible rfl
              try simp only [Act.put, List.getElem_toArray, List.getElem_cons_zero, List.getElem_cons_succ, List.setIfInBounds_toArray, List.set_cons_zero, List.set_cons_succ]
              refine wpAnyH_ready (rs := [29]) (by kernel_rfl) (by simp) ?_
              refine AllReadyH.cons rfl (fun K hK => ?_) AllReadyH.nil
              · go_simp
                have hN3 := (Below.refl w2.heap.size w2).alloc (Nat.le_refl _) (.cells #[.int .u8 34] 5)
                refine hK.out _ _ ⟨(lev_next L1 L2 hH2.1 hN3), q_next hH2.2 hN3⟩ (fun hI3 => ?_)
                clear hK K
                refine wpAnyH_strong (S' := (fun W' => ((((Lev w w.heap.size g f ho ap pr id tx (.slice (some ⟨b1, o1, none⟩) da.length lc) b1 (o1 + k * 2 + 1) pb1 (po1 + m * 2) (.slice (some ⟨pb1, po1, none⟩) x.2.length n1) p.1 p.2 W') ∧ QAt (wr.heap.size) W')) ∧ QAt (w2.heap.size) W'))) (fun W' hh => hh.1) _ _ _ _ ?_
                have hH3 : (fun W' => ((((Lev w w.heap.size g f ho ap pr id tx (.slice (some ⟨b1, o1, none⟩) da.length lc) b1 (o1 + k * 2 + 1) pb1 (po1 + m * 2) (.slice (some ⟨pb1, po1, none⟩) x.2.length n1) p.1 p.2 W') ∧ QAt (wr.heap.size) W')) ∧ QAt (w2.heap.size) W')) (w2.alloc (.cells #[.int .u8 34] 5)) := ⟨hI3, q_new _ _ _ (by simp)⟩
                refine wpAnyH_take (i := 30) (v := ?_) rfl (by kernel_rfl) (by kernel_rfl) (by kernel_rfl) (fun _ _ _ h => h) (Or.inl ⟨by rfl, ?_⟩) (by assumption) ?_
                rotate_left
                · intro W hSw; (try dsimp only at hSw); have hq := quote_string W _ hSw.2.1; go_simp; first | done | with_reducible rfl
                try simp only [Act.put, List.getElem_toArray, List.getElem_cons_zero, List.getElem_cons_succ, List.setIfInBounds_toArray, List.set_cons_zero, List.set_cons_succ]
                refine wpAnyH_take (i := 31) (v := ?_) rfl (by kernel_rfl) (by kernel_rfl) (by kernel_rfl) (fun _ _ _ h => h) (Or.inl ⟨by rfl, ?_⟩) (by assumption) ?_
                rotate_left
                · intro W hSw; (try dsimp only at hSw); go_simp; first | done | with_reducible rfl
                try simp only [Act.put, List.getElem_toArray, List.getElem_cons_zero, List.getElem_cons_succ, List.setIfInBounds_toArray, List.set_cons_zero, List.set_cons_succ]
                refine wpAnyH_take (i := 32) (v := ?_) rfl (by kernel_rfl) (by kernel_rfl) (by kernel_rfl) (fun _ _ _ h => h) (Or.inl ⟨by rfl, ?_⟩) (by assumption) ?_
                rotate_left
                · intro W hSw; (try dsimp only at hSw); go_simp; first | done | with_reducible rfl
                try simp only [Act.put, List.getElem_toArray, List.getElem_cons_zero, List.getElem_cons_succ, List.setIfInBounds_toArray, List.set_cons_zero, List.set_cons_succ]
                refine wpAnyH_done (by kernel_rfl) ?_ _
                have HFIN := Lib.hid hH3.1.1.1
                go_wp2
                go_roundw
                case rel => exact ⟨m + 1, by omega, by go_num, by rw [HNX.out], HFIN.out⟩
                case measure => simp [intOf]; omega
            · go_simp
              have hN4 := (Below.refl (wr.drew.alloc (.cells #[.int .u8 34] 5)).heap.size (wr.drew.alloc (.cells #[.int .u8 34] 5))).alloc (Nat.le_refl _) (.cells #[.int .u8 34] 5)
              refine hK.out _ _ ⟨(lev_next L1 L2 hH1.1 hN4), q_next hH1.2 hN4⟩ (fun hI4 => ?_)
              clear hK K
              refine wpAnyH_strong (S' := (fun W' => ((((Lev w w.heap.size g f ho ap pr id tx (.slice (some ⟨b1, o1, none⟩) da.length lc) b1 (o1 + k * 2 + 1) pb1 (po1 + m * 2) (.slice (some ⟨pb1, po1, none⟩) x.2.length n1) p.1 p.2 W') ∧ QAt (wr.heap.size) W')) ∧ QAt (wr.heap.size + 1) W'))) (fun W' hh => hh.1) _ _ _ _ ?_
              have hH4 : (fun W' => ((((Lev w w.heap.size g f ho ap pr id tx (.slice (some ⟨b1, o1, none⟩) da.length lc) b1 (o1 + k * 2 + 1) pb1 (po1 + m * 2) (.slice (some ⟨pb1, po1, none⟩) x.2.length n1) p.1 p.2 W') ∧ QAt (wr.heap.size) W')) ∧ QAt (wr.heap.size + 1) W')) ((wr.drew.alloc (.cells #[.int .u8 34] 5)).alloc (.cells #[.int .u8 34] 5)) := ⟨hI4, q_new _ _ _ (by simp)⟩
              refine wpAnyH_take (i := 30) (v := ?_) rfl (by kernel_rfl) (by kernel_rfl) (by kernel_rfl) (fun _ _ _ h => h) (Or.inl ⟨by rfl, ?_⟩) (by assumption) ?_
              rotate_left
              · intro W hSw; (try dsimp only at hSw); have hq := quote_string W _ hSw.2.1; go_simp; first | done | with_reducible rfl
              try simp only [Act.put, List.getElem_toArray, List.getElem_cons_zero, List.getElem_cons_succ, List.setIfInBounds_toArray, List.set_cons_zero, List.set_cons_succ]
              refine wpAnyH_ready (rs := [27]) (by kernel_rfl) (by simp) ?_
              refine AllReadyH.cons rfl (fun K hK => ?_) AllReadyH.nil
              · go_simp
                (go_at_call 18; refine (HV.out _).mono ?_; rintro e w5 ⟨rfl, hz5⟩)
                go_wp2_with fail
                refine hK.out _ _ ⟨⟨(lev_next L1 L2 hH4.1.1 hz5), q_next hH4.1.2 hz5⟩, q_next hH4.2 hz5⟩ (fun hH5 => ?_)
                clear hK K
                refine wpAnyH_take (i := 28) (v := ?_) rfl (by kernel_rfl) (by kernel_rfl) (by kernel_rfl) (fun _ _ _ h => h) (Or.inl ⟨by rfl, ?_⟩) (by assumption) ?_
                rotate_left
                · intro W hSw; (try dsimp only at hSw); go_simp; first | done | with_reducible rfl
                try simp only [Act.put, List.getElem_toArray, List.getElem_cons_zero, List.getElem_cons_succ, List.setIfInBounds_toArray, List.set_cons_zero, List.set_cons_succ]
                refine wpAnyH_take (i := 31) (v := ?_) rfl (by kernel_rfl) (by kernel_rfl) (by kernel_rfl) (fun _ _ _ h => h) (Or.inl ⟨by rfl, ?_⟩) (by assumption) ?_
                rotate_left
                · intro W hSw; (try dsimp only at hSw); go_simp; first | done | with_reducible rfl
                try simp only [Act.put, List.getElem_toArray, List.getElem_cons_zero, List.getElem_cons_succ, List.setIfInBounds_toArray, List.set_cons_zero, List.set_cons_succ]
                refine wpAnyH_take (i := 32) (v := ?_) rfl (by kernel_rfl) (by kernel_rfl) (by kernel_rfl) (fun _ _ _ h => h) (Or.inl ⟨by rfl, ?_⟩) (by assumption) ?_
                rotate_left
                · intro W hSw; (try dsimp only at hSw); go_simp; first | done | with_reducible rfl
                try simp only [Act.put, List.getElem_toArray, List.getElem_cons_zero, List.getElem_cons_succ, List.setIfInBounds_toArray, List.set_cons_zero, List.set_cons_succ]
                refine wpAnyH_done (by kernel_rfl) ?_ _
                have HFIN := Lib.hid hH5.1.1.1
                go_wp2
                go_roundw
                case rel => exact ⟨m + 1, by omega, by go_num, by rw [HNX.out], HFIN.out⟩
                case measure => simp [intOf]; omega
          · go_simp
            (go_at_call 18; refine (HV.out _).mono ?_; rintro e w6 ⟨rfl, hz6⟩)
            go_wp2_with fail
            refine hK.out _ _ (lev_next L1 L2 hHeld hz6) (fun hH6 => ?_)
            clear hK K
            refine wpAnyH_ready (rs := [14, 29]) (by kernel_rfl) (by simp) ?_
            refine AllReadyH.cons rfl (fun K hK => ?_) (AllReadyH.cons rfl (fun K hK => ?_) AllReadyH.nil)
            · go_simp
              have hN7 := (Below.refl w6.heap.size w6).alloc (Nat.le_refl _) (.cells #[.int .u8 34] 5)
              refine hK.out _ _ (lev_next L1 L2 hH6 hN7) (fun hI7 => ?_)
              clear hK K
              refine wpAnyH_strong (S' := (fun W' => ((Lev w w.heap.size g f ho ap pr id tx (.slice (some ⟨b1, o1, none⟩) da.length lc) b1 (o1 + k * 2 + 1) pb1 (po1 + m * 2) (.slice (some ⟨pb1, po1, none⟩) x.2.length n1) p.1 p.2 W') ∧ QAt (w6.heap.size) W'))) (fun W' hh => hh.1) _ _ _ _ ?_
              have hH7 : (fun W' => ((Lev w w.heap.size g f ho ap pr id tx (.slice (some ⟨b1, o1, none⟩) da.length lc) b1 (o1 + k * 2 + 1) pb1 (po1 + m * 2) (.slice (some ⟨pb1, po1, none⟩) x.2.length n1) p.1 p.2 W') ∧ QAt (w6.heap.size) W')) (w6.alloc (.cells #[.int .u8 34] 5)) := ⟨hI7, q_new _ _ _ (by simp)⟩
              refine wpAnyH_take (i := 15) (v := ?_) rfl (by kernel_rfl) (by kernel_rfl) (by kernel_rfl) (fun _ _ _ h => h) (Or.inl ⟨by rfl, ?_⟩) (by assumption) ?_
              rotate_left
              · intro W hSw; (try dsimp only at hSw); have hq := quote_string W _ hSw.2.1; go_simp; first | done | with_reducible rfl
              try simp only [Act.put, List.getElem_toArray, List.getElem_cons_zero, List.getElem_cons_succ, List.setIfInBounds_toArray, List.set_cons_zero, List.set_cons_succ]
              refine wpAnyH_take (i := 16) (v := ?_) rfl (by kernel_rfl) (by kernel_rfl) (by kernel_rfl) (fun _ _ _ h => h) (Or.inl ⟨by rfl, ?_⟩) (by assumption) ?_
              rotate_left
              · intro W hSw; (try dsimp only at hSw); go_simp; first | done | with_reducible rfl
              try simp only [Act.put, List.getElem_toArray, List.getElem_cons_zero, List.getElem_cons_succ, List.setIfInBounds_toArray, List.set_cons_zero, List.set_cons_succ]
              refine wpAnyH_take (i := 28) (v := ?_) rfl (by kernel_rfl) (by kernel_rfl) (by kernel_rfl) (fun _ _ _ h => h) (Or.inl ⟨by rfl, ?_⟩) (by assumption) ?_
              rotate_left
              · intro W hSw; (try dsimp only at hSw); go_simp; first | done | with_reducible rfl
              try simp only [Act.put, List.getElem_toArray, List.getElem_cons_zero, List.getElem_cons_succ, List.setIfInBounds_toArray, List.set_cons_zero, List.set_cons_succ]
              refine wpAnyH_ready (rs := [29]) (by kernel_rfl) (by simp) ?_
              refine AllReadyH.cons rfl (fun K hK => ?_) AllReadyH.nil
              · go_simp
                have hN8 := (Below.refl (w6.alloc (.cells #[.int .u8 34] 5)).heap.size (w6.alloc (.cells #[.int .u8 34] 5))).alloc (Nat.le_refl _) (.cells #[.int .u8 34] 5)
                refine hK.out _ _ ⟨(lev_next L1 L2 hH7.1 hN8), q_next hH7.2 hN8⟩ (fun hI8 => ?_)
                clear hK K
                refine wpAnyH_strong (S' := (fun W' => ((((Lev w w.heap.size g f ho ap pr id tx (.slice (some ⟨b1, o1, none⟩) da.length lc) b1 (o1 + k * 2 + 1) pb1 (po1 + m * 2) (.slice (some ⟨pb1, po1, none⟩) x.2.length n1) p.1 p.2 W') ∧ QAt (w6.heap.size) W')) ∧ QAt (w6.heap.size + 1) W'))) (fun W' hh => hh.1) _ _ _ _ ?_
                have hH8 : (fun W' => ((((Lev w w.heap.size g f ho ap pr id tx (.slice (some ⟨b1, o1, none⟩) da.length lc) b1 (o1 + k * 2 + 1) pb1 (po1 + m * 2) (.slice (some ⟨pb1, po1, none⟩) x.2.length n1) p.1 p.2 W') ∧ QAt (w6.heap.size) W')) ∧ QAt (w6.heap.size + 1) W')) ((w6.alloc (.cells #[.int .u8 34] 5)).alloc (.cells #[.int .u8 34] 5)) := ⟨hI8, q_new _ _ _ (by simp)⟩
                refine wpAnyH_take (i := 30) (v := ?_) rfl (by kernel_rfl) (by kernel_rfl) (by kernel_rfl) (fun _ _ _ h => h) (Or.inl ⟨by rfl, ?_⟩) (by assumption) ?_
                rotate_left
                · intro W hSw; (try dsimp only at hSw); have hq := quote_string W _ hSw.2.1; go_simp; first | done | with_reducible rfl
                try simp only [Act.put, List.getElem_toArray, List.getElem_cons_zero, List.getElem_cons_succ, List.setIfInBounds_toArray, List.set_cons_zero, List.set_cons_succ]
                refine wpAnyH_take (i := 31) (v := ?_) rfl (by kernel_rfl) (by kernel_rfl) (by kernel_rfl) (fun _ _ _ h => h) (Or.inl ⟨by rfl, ?_⟩) (by assumption) ?_
                rotate_left
                · intro W hSw; (try dsimp only at hSw); go_simp; first | done | with_reducible rfl
                try simp only [Act.put, List.getElem_toArray, List.getElem_cons_zero, List.getElem_cons_succ, List.setIfInBounds_toArray, List.set_cons_zero, List.set_cons_succ]
                refine wpAnyH_take (i := 32) (v := ?_) rfl (by kernel_rfl) (by kernel_rfl) (by kernel_rfl) (fun _ _ _ h => h) (Or.inl ⟨by rfl, ?_⟩) (by assumption) ?_
                rotate_left
                · intro W hSw; (try dsimp only at hSw); go_simp; first | done | with_reducible rfl
                try simp only [Act.put, List.getElem_toArray, List.getElem_cons_zero, List.getElem_cons_succ, List.setIfInBounds_toArray, List.set_cons_zero, List.set_cons_succ]
                refine wpAnyH_done (by kernel_rfl) ?_ _
                have HFIN := Lib.hid hH8.1.1.1
                go_wp2
                go_roundw
                case rel => exact ⟨m + 1, by omega, by go_num, by rw [HNX.out], HFIN.out⟩
                case measure => simp [intOf]; omega
            · go_simp
              have hN9 := (Below.refl w6.heap.size w6).alloc (Nat.le_refl _) (.cells #[.int .u8 34] 5)
              refine hK.out _ _ (lev_next L1 L2 hH6 hN9) (fun hI9 => ?_)
              clear hK K
              refine wpAnyH_strong (S' := (fun W' => ((Lev w w.heap.size g f ho ap pr id tx (.slice (some ⟨b1, o1, none⟩) da.length lc) b1 (o1 + k * 2 + 1) pb1 (po1 + m * 2) (.slice (some ⟨pb1, po1, none⟩) x.2.length n1) p.1 p.2 W') ∧ QAt (w6.heap.size) W'))) (fun W' hh => hh.1) _ _ _ _ ?_
              have hH9 : (fun W' => ((Lev w w.heap.size g f ho ap pr id tx (.slice (some ⟨b1, o1, none⟩) da.length lc) b1 (o1 + k * 2 + 1) pb1 (po1 + m * 2) (.slice (some ⟨pb1, po1, none⟩) x.2.length n1) p.1 p.2 W') ∧ QAt (w6.heap.size) W')) (w6.alloc (.cells #[.int .u8 34] 5)) := ⟨hI9, q_new _ _ _ (by simp)⟩
              refine wpAnyH_take (i := 30) (v := ?_) rfl (by kernel_rfl) (by kernel_rfl) (by kernel_rfl) (fun _ _ _ h => h) (Or.inl ⟨by rfl, ?_⟩) (by assumption) ?_
              rotate_left
              · intro W hSw; (try dsimp only at hSw); have hq := quote_string W _ hSw.2.1; go_simp; first | done | with_reducible rfl
              try simp only [Act.put, List.getElem_toArray, List.getElem_cons_zero, List.getElem_cons_succ, List.setIfInBounds_toArray, List.set_cons_zero, List.set_cons_succ]
              refine wpAnyH_ready (rs := [14]) (by kernel_rfl) (by simp) ?_
              refine AllReadyH.cons rfl (fun K hK => ?_) AllReadyH.nil
              · go_simp
                have hN10 := (Below.refl (w6.alloc (.cells #[.int .u8 34] 5)).heap.size (w6.alloc (.cells #[.int .u8 34] 5))).alloc (Nat.le_refl _) (.cells #[.int .u8 34] 5)
                refine hK.out _ _ ⟨(lev_next L1 L2 hH9.1 hN10), q_next hH9.2 hN10⟩ (fun hI10 => ?_)
                clear hK K
                refine wpAnyH_strong (S' := (fun W' => ((((Lev w w.heap.size g f ho ap pr id tx (.slice (some ⟨b1, o1, none⟩) da.length lc) b1 (o1 + k * 2 + 1) pb1 (po1 + m * 2) (.slice (some ⟨pb1, po1, none⟩) x.2.length n1) p.1 p.2 W') ∧ QAt (w6.heap.size) W')) ∧ QAt (w6.heap.size + 1) W'))) (fun W' hh => hh.1) _ _ _ _ ?_
                have hH10 : (fun W' => ((((Lev w w.heap.size g f ho ap pr id tx (.slice (some ⟨b1, o1, none⟩) da.length lc) b1 (o1 + k * 2 + 1) pb1 (po1 + m * 2) (.slice (some ⟨pb1, po1, none⟩) x.2.length n1) p.1 p.2 W') ∧ QAt (w6.heap.size) W')) ∧ QAt (w6.heap.size + 1) W')) ((w6.alloc (.cells #[.int .u8 34] 5)).alloc (.cells #[.int .u8 34] 5)) := ⟨hI10, q_new _ _ _ (by simp)⟩
                refine wpAnyH_take (i := 15) (v := ?_) rfl (by kernel_rfl) (by kernel_rfl) (by kernel_rfl) (fun _ _ _ h => h) (Or.inl ⟨by rfl, ?_⟩) (by assumption) ?_
                rotate_left
                · intro W hSw; (try dsimp only at hSw); have hq := quote_string W _ hSw.2.1; go_simp; first | done | with_reducible rfl
                try simp only [Act.put, List.getElem_toArray, List.getElem_cons_zero, List.getElem_cons_succ, List.setIfInBounds_toArray, List.set_cons_zero, List.set_cons_succ]
                refine wpAnyH_take (i := 16) (v := ?_) rfl (by kernel_rfl) (by kernel_rfl) (by kernel_rfl) (fun _ _ _ h => h) (Or.inl ⟨by rfl, ?_⟩) (by assumption) ?_
                rotate_left
                · intro W hSw; (try dsimp only at hSw); go_simp; first | done | with_reducible rfl
                try simp only [Act.put, List.getElem_toArray, List.getElem_cons_zero, List.getElem_cons_succ, List.setIfInBounds_toArray, List.set_cons_zero, List.set_cons_succ]
                refine wpAnyH_take (i := 28) (v := ?_) rfl (by kernel_rfl) (by kernel_rfl) (by kernel_rfl) (fun _ _ _ h => h) (Or.inl ⟨by rfl, ?_⟩) (by assumption) ?_
                rotate_left
                · intro W hSw; (try dsimp only at hSw); go_simp; first | done | with_reducible rfl
                try simp only [Act.put, List.getElem_toArray, List.getElem_cons_zero, List.getElem_cons_succ, List.setIfInBounds_toArray, List.set_cons_zero, List.set_cons_succ]
                refine wpAnyH_take (i := 31) (v := ?_) rfl (by kernel_rfl) (by kernel_rfl) (by kernel_rfl) (fun _ _ _ h => h) (Or.inl ⟨by rfl, ?_⟩) (by assumption) ?_
                rotate_left
                · intro W hSw; (try dsimp only at hSw); go_simp; first | done | with_reducible rfl
                try simp only [Act.put, List.getElem_toArray, List.getElem_cons_zero, List.getElem_cons_succ, List.setIfInBounds_toArray, List.set_cons_zero, List.set_cons_succ]
                refine wpAnyH_take (i := 32) (v := ?_) rfl (by kernel_rfl) (by kernel_rfl) (by kernel_rfl) (fun _ _ _ h => h) (Or.inl ⟨by rfl, ?_⟩) (by assumption) ?_
                rotate_left
                · intro W hSw; (try dsimp only at hSw); go_simp; first | done | with_reducible rfl
                try simp only [Act.put, List.getElem_toArray, List.getElem_cons_zero, List.getElem_cons_succ, List.setIfInBounds_toArray, List.set_cons_zero, List.set_cons_succ]
                refine wpAnyH_done (by kernel_rfl) ?_ _
                have HFIN := Lib.hid hH10.1.1.1
                go_wp2
                go_roundw
                case rel => exact ⟨m + 1, by omega, by go_num, by rw [HNX.out], HFIN.out⟩
                case measure => simp [intOf]; omega
          · go_simp
            have hN11 := (Below.refl wr.drew.heap.size wr.drew).alloc (Nat.le_refl _) (.cells #[.int .u8 34] 5)
            refine hK.out _ _ (lev_next L1 L2 hHeld hN11) (fun hI11 => ?_)
            clear hK K
            refine wpAnyH_strong (S' := (fun W' => ((Lev w w.heap.size g f ho ap pr id tx (.slice (some ⟨b1, o1, none⟩) da.length lc) b1 (o1 + k * 2 + 1) pb1 (po1 + m * 2) (.slice (some ⟨pb1, po1, none⟩) x.2.length n1) p.1 p.2 W') ∧ QAt (wr.heap.size) W'))) (fun W' hh => hh.1) _ _ _ _ ?_
            have hH11 : (fun W' => ((Lev w w.heap.size g f ho ap pr id tx (.slice (some ⟨b1, o1, none⟩) da.length lc) b1 (o1 + k * 2 + 1) pb1 (po1 + m * 2) (.slice (some ⟨pb1, po1, none⟩) x.2.length n1) p.1 p.2 W') ∧ QAt (wr.heap.size) W')) (wr.drew.alloc (.cells #[.int .u8 34] 5)) := ⟨hI11, q_new _ _ _ (by simp)⟩
            refine wpAnyH_take (i := 30) (v := ?_) rfl (by kernel_rfl) (by kernel_rfl) (by kernel_rfl) (fun _ _ _ h => h) (Or.inl ⟨by rfl, ?_⟩) (by assumption) ?_
            rotate_left
            · intro W hSw; (try dsimp only at hSw); have hq := quote_string W _ hSw.2.1; go_simp; first | done | with_reducible rfl
            try simp only [Act.put, List.getElem_toArray, List.getElem_cons_zero, List.getElem_cons_succ, List.setIfInBounds_toArray, List.set_cons_zero, List.set_cons_succ]
            refine wpAnyH_ready (rs := [14, 27]) (by kernel_rfl) (by simp) ?_
            refine AllReadyH.cons rfl (fun K hK => ?_) (AllReadyH.cons rfl (fun K hK => ?_) AllReadyH.nil)
            · go_simp
              have hN12 := (Below.refl (wr.drew.alloc (.cells #[.int .u8 34] 5)).heap.size (wr.drew.alloc (.cells #[.int .u8 34] 5))).alloc (Nat.le_refl _) (.cells #[.int .u8 34] 5)
              refine hK.out _ _ ⟨(lev_next L1 L2 hH11.1 hN12), q_next hH11.2 hN12⟩ (fun hI12 => ?_)
              clear hK K
              refine wpAnyH_strong (S' := (fun W' => ((((Lev w w.heap.size g f ho ap pr id tx (.slice (some ⟨b1, o1, none⟩) da.length lc) b1 (o1 + k * 2 + 1) pb1 (po1 + m * 2) (.slice (some ⟨pb1, po1, none⟩) x.2.length n1) p.1 p.2 W') ∧ QAt (wr.heap.size) W')) ∧ QAt (wr.heap.size + 1) W'))) (fun W' hh => hh.1) _ _ _ _ ?_
              have hH12 : (fun W' => ((((Lev w w.heap.size g f ho ap pr id tx (.slice (some ⟨b1, o1, none⟩) da.length lc) b1 (o1 + k * 2 + 1) pb1 (po1 + m * 2) (.slice (some ⟨pb1, po1, none⟩) x.2.length n1) p.1 p.2 W') ∧ QAt (wr.heap.size) W')) ∧ QAt (wr.heap.size + 1) W')) ((wr.drew.alloc (.cells #[.int .u8 34] 5)).alloc (.cells #[.int .u8 34] 5)) := ⟨hI12, q_new _ _ _ (by simp)⟩
              refine wpAnyH_take (i := 15) (v := ?_) rfl (by kernel_rfl) (by kernel_rfl) (by kernel_rfl) (fun _ _ _ h => h) (Or.inl ⟨by rfl, ?_⟩) (by assumption) ?_
              rotate_left
              · intro W hSw; (try dsimp only at hSw); have hq := quote_string W _ hSw.2.1; go_simp; first | done | with_reducible rfl
              try simp only [Act.put, List.getElem_toArray, List.getElem_cons_zero, List.getElem_cons_succ, List.setIfInBounds_toArray, List.set_cons_zero, List.set_cons_succ]
              refine wpAnyH_take (i := 16) (v := ?_) rfl (by kernel_rfl) (by kernel_rfl) (by kernel_rfl) (fun _ _ _ h => h) (Or.inl ⟨by rfl, ?_⟩) (by assumption) ?_
              rotate_left
              · intro W hSw; (try dsimp only at hSw); go_simp; first | done | with_reducible rfl
              try simp only [Act.put, List.getElem_toArray, List.getElem_cons_zero, List.getElem_cons_succ, List.setIfInBounds_toArray, List.set_cons_zero, List.set_cons_succ]
              refine wpAnyH_ready (rs := [27]) (by kernel_rfl) (by simp) ?_
              refine AllReadyH.cons rfl (fun K hK => ?_) AllReadyH.nil
              · go_simp
                (go_at_call 18; refine (HV.out _).mono ?_; rintro e w13 ⟨rfl, hz13⟩)
                go_wp2_with fail
                refine hK.out _ _ ⟨⟨(lev_next L1 L2 hH12.1.1 hz13), q_next hH12.1.2 hz13⟩, q_next hH12.2 hz13⟩ (fun hH13 => ?_)
                clear hK K
                refine wpAnyH_take (i := 28) (v := ?_) rfl (by kernel_rfl) (by kernel_rfl) (by kernel_rfl) (fun _ _ _ h => h) (Or.inl ⟨by rfl, ?_⟩) (by assumption) ?_
                rotate_left
                · intro W hSw; (try dsimp only at hSw); go_simp; first | done | with_reducible rfl
                try simp only [Act.put, List.getElem_toArray, List.getElem_cons_zero, List.getElem_cons_succ, List.setIfInBounds_toArray, List.set_cons_zero, List.set_cons_succ]
                refine wpAnyH_take (i := 31) (v := ?_) rfl (by kernel_rfl) (by kernel_rfl) (by kernel_rfl) (fun _ _ _ h => h) (Or.inl ⟨by rfl, ?_⟩) (by assumption) ?_
                rotate_left
                · intro W hSw; (try dsimp only at hSw); go_simp; first | done | with_reducible rfl
                try simp only [Act.put, List.getElem_toArray, List.getElem_cons_zero, List.getElem_cons_succ, List.setIfInBounds_toArray, List.set_cons_zero, List.set_cons_succ]
                refine wpAnyH_take (i := 32) (v := ?_) rfl (by kernel_rfl) (by kernel_rfl) (by kernel_rfl) (fun _ _ _ h => h) (Or.inl ⟨by rfl, ?_⟩) (by assumption) ?_
                rotate_left
                · intro W hSw; (try dsimp only at hSw); go_simp; first | done | with_reducible rfl
                try simp only [Act.put, List.getElem_toArray, List.getElem_cons_zero, List.getElem_cons_succ, List.setIfInBounds_toArray, List.set_cons_zero, List.set_cons_succ]
                refine wpAnyH_done (by kernel_rfl) ?_ _
                have HFIN := Lib.hid hH13.1.1.1
                go_wp2
                go_roundw
                case rel => exact ⟨m + 1, by omega, by go_num, by rw [HNX.out], HFIN.out⟩
                case measure => simp [intOf]; omega
            · go_simp
              (go_at_call 18; refine (HV.out _).mono ?_; rintro e w14 ⟨rfl, hz14⟩)
              go_wp2_with fail
              refine hK.out _ _ ⟨(lev_next L1 L2 hH11.1 hz14), q_next hH11.2 hz14⟩ (fun hH14 => ?_)
              clear hK K
              refine wpAnyH_ready (rs := [14]) (by kernel_rfl) (by simp) ?_
              refine AllReadyH.cons rfl (fun K hK => ?_) AllReadyH.nil
              · go_simp
                have hN15 := (Below.refl w14.heap.size w14).alloc (Nat.le_refl _) (.cells #[.int .u8 34] 5)
                refine hK.out _ _ ⟨(lev_next L1 L2 hH14.1 hN15), q_next hH14.2 hN15⟩ (fun hI15 => ?_)
                clear hK K
                refine wpAnyH_strong (S' := (fun W' => ((((Lev w w.heap.size g f ho ap pr id tx (.slice (some ⟨b1, o1, none⟩) da.length lc) b1 (o1 + k * 2 + 1) pb1 (po1 + m * 2) (.slice (some ⟨pb1, po1, none⟩) x.2.length n1) p.1 p.2 W') ∧ QAt (wr.heap.size) W')) ∧ QAt (w14.heap.size) W'))) (fun W' hh => hh.1) _ _ _ _ ?_
                have hH15 : (fun W' => ((((Lev w w.heap.size g f ho ap pr id tx (.slice (some ⟨b1, o1, none⟩) da.length lc) b1 (o1 + k * 2 + 1) pb1 (po1 + m * 2) (.slice (some ⟨pb1, po1, none⟩) x.2.length n1) p.1 p.2 W') ∧ QAt (wr.heap.size) W')) ∧ QAt (w14.heap.size) W')) (w14.alloc (.cells #[.int .u8 34] 5)) := ⟨hI15, q_new _ _ _ (by simp)⟩
                refine wpAnyH_take (i := 15) (v := ?_) rfl (by kernel_rfl) (by kernel_rfl) (by kernel_rfl) (fun _ _ _ h => h) (Or.inl ⟨by rfl, ?_⟩) (by assumption) ?_
                rotate_left
                · intro W hSw; (try dsimp only at hSw); have hq := quote_string W _ hSw.2.1; go_simp; first | done | with_reducible rfl
                try simp only [Act.put, List.getElem_toArray, List.getElem_cons_zero, List.getElem_cons_succ, List.setIfInBounds_toArray, List.set_cons_zero, List.set_cons_succ]
                refine wpAnyH_take (i := 16) (v := ?_) rfl (by kernel_rfl) (by kernel_rfl) (by kernel_rfl) (fun _ _ _ h => h) (Or.inl ⟨by rfl, ?_⟩) (by assumption) ?_
                rotate_left
                · intro W hSw; (try dsimp only at hSw); go_simp; first | done | with_reducible rfl
                try simp only [Act.put, List.getElem_toArray, List.getElem_cons_zero, List.getElem_cons_succ, List.setIfInBounds_toArray, List.set_cons_zero, List.set_cons_succ]
                refine wpAnyH_take (i := 28) (v := ?_) rfl (by kernel_rfl) (by kernel_rfl) (by kernel_rfl) (fun _ _ _ h => h) (Or.inl ⟨by rfl, ?_⟩) (by assumption) ?_
                rotate_left
                · intro W hSw; (try dsimp only at hSw); go_simp; first | done | with_reducible rfl
                try simp only [Act.put, List.getElem_toArray, List.getElem_cons_zero, List.getElem_cons_succ, List.setIfInBounds_toArray, List.set_cons_zero, List.set_cons_succ]
                refine wpAnyH_take (i := 31) (v := ?_) rfl (by kernel_rfl) (by kernel_rfl) (by kernel_rfl) (fun _ _ _ h => h) (Or.inl ⟨by rfl, ?_⟩) (by assumption) ?_
                rotate_left
                · intro W hSw; (try dsimp only at hSw); go_simp; first | done | with_reducible rfl
                try simp only [Act.put, List.getElem_toArray, List.getElem_cons_zero, List.getElem_cons_succ, List.setIfInBounds_toArray, List.set_cons_zero, List.set_cons_succ]
                refine wpAnyH_take (i := 32) (v := ?_) rfl (by kernel_rfl) (by kernel_rfl) (by kernel_rfl) (fun _ _ _ h => h) (Or.inl ⟨by rfl, ?_⟩) (by assumption) ?_
                rotate_left
                · intro W hSw; (try dsimp only at hSw); go_simp; first | done | with_reducible rfl
                try simp only [Act.put, List.getElem_toArray, List.getElem_cons_zero, List.getElem_cons_succ, List.setIfInBounds_toArray, List.set_cons_zero, List.set_cons_succ]
                refine wpAnyH_done (by kernel_rfl) ?_ _
                have HFIN := Lib.hid hH15.1.1.1
                go_wp2
                go_roundw
                case rel => exact ⟨m + 1, by omega, by go_num, by rw [HNX.out], HFIN.out⟩
                case measure => simp [intOf]; omega
        · obtain rfl : m = x.2.length := by omega
          have m3 : ¬ 9223372036854775807 < S.size + 1 := by
            have : S.size ≤ 35184377088832 := by rw [← hS, bytes_size, List.length_append, List.take_length]; omega
            omega
          have hnx : S ++ ⟨#[93]⟩ = bytes (H ++ elmsT (da.take (k + 1))) := by
            rw [one_is hS, elmsT_take HX.out, List.take_length, ← HP0.out]
            congr 1
            unfold elmT
            simp
          have HNX := Lib.hid hnx
          have HPY := Lib.hid hPy
          clear hS hnx hPy hq1
          go_wp2
          go_roundw
          case rel => exact ⟨k + 1, by omega, by go_num, by rw [HNX.out], HPY.out⟩
          case measure => simp [intOf]; omega
    · obtain rfl : k = da.length := by omega
      rw [List.take_length] at hS0
      have szS : S0.size ≤ 35184377088832 := by rw [← hS0, bytes_size, List.length_append]; omega
      have j9 := hP.2.2.2.2.2.2.2.1
      have HB := Lib.hid hBw
      have m1 : ¬ 9223372036854775807 < S0.size + 4 := by omega
      have m2 : ¬ 9223372036854775807 < S0.size + 4 + tx.size := by omega
      have HS0 := Lib.hid hS0
      clear hP hBw hS0
      by_cases hx : 0 < tx.size
      · have hfin : S0 ++ ⟨#[32, 239, 187, 191]⟩ ++ tx = bytes (headT g f T ho ap pr id ++ (elmsT da ++ behindT tx.data.toList)) := by
          rw [text_is HS0.out hx, HH.out, List.append_assoc]
        have HFIN := Lib.hid hfin
        clear hfin
        go_wp2
        go_ret2
        exact ⟨⟨_, HT.out, by rw [← HFIN.out]; rfl⟩, HB.out⟩
      · have hfin : S0 = bytes (headT g f T ho ap pr id ++ (elmsT da ++ behindT tx.data.toList)) := by
          rw [text_no (by omega), HH.out, List.append_nil, HS0.out]
        have HFIN := Lib.hid hfin
        clear hfin
        go_wp2
        go_ret2
        exact ⟨⟨_, HT.out, by rw [← HFIN.out]; rfl⟩, HB.out⟩
end Go.Proofs.YtnaijahhogndjaaGreatDoor
