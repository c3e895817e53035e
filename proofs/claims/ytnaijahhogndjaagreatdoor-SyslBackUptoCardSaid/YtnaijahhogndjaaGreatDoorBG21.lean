/- What sysl.Parse answers where its head isn't one. -/
import Derived.Test.YtnaijahhogndjaaGreatDoorBG18
import Derived.Test.YtnaijahhogndjaaGreatDoorBG9
namespace Go.Proofs.YtnaijahhogndjaaGreatDoor
open Go.ChangeShapes Go.WideShapes Go.ChangeAt Go.RowKit

theorem pw_up (w : World) (o1 : Obj) (r : List UInt8) (f : Bool) (c : Nat) : WUp w ((PW w E0 o1 r f).drewN c) where
  b := pw_below w E0 o1 r f c
  z := by simp <;> omega
  f := fun o => by simp [go_sem]
  e := fun k hk => by
    match k, hk with
    | 0, _ => exact ⟨.int .i64 0, by simp [go_sem]⟩
    | 1, _ => exact ⟨.int .i64 0, by simp [go_sem]⟩
    | 2, _ => exact ⟨.bool false, by simp [go_sem]⟩
    | 3, _ => exact ⟨.int .i64 0, by simp [go_sem]⟩
    | 4, _ => exact ⟨.string ⟨#[]⟩, by simp [go_sem]⟩
    | 5, _ => exact ⟨.string ⟨#[]⟩, by simp [go_sem]⟩
    | 6, _ => exact ⟨.string ⟨#[]⟩, by simp [go_sem]⟩
    | 7, _ => exact ⟨.string ⟨#[]⟩, by simp [go_sem]⟩
    | 8, _ => exact ⟨.slice none 0 0, by simp [go_sem]⟩
    | 9, _ => exact ⟨.string ⟨#[]⟩, by simp [go_sem]⟩
set_option maxHeartbeats 4000000 in
set_option maxRecDepth 100000 in
theorem parse_b0 (l r1 r2 r3 r4 r5 r6 r7 r8 ahead dec form date h a p i : List UInt8) (f1 f2 f3 f4 f5 f6 f7 f8 : Bool) (w : World) (hm : Max w) (hl : l.length ≤ 16777216)
    (H1 : untilL [60] (l, true) = (ahead, r1, f1)) (H2 : untilL [62] (r1, f1) = (dec, r2, f2)) (H3 : untilL [32] (r2, f2) = (form, r3, f3)) (K1 : toldL (r3, f3) = (date, r4, f4))
    (K2 : toldL (r4, f4) = (h, r5, f5)) (K3 : toldL (r5, f5) = (a, r6, f6)) (K4 : toldL (r6, f6) = (p, r7, f7)) (K5 : toldL (r7, f7) = (i, r8, f8))
    (hbad : ¬ (f8 = true ∧ ahead = [] ∧ form = [49])) :
    Calls Tryz.prog 23 #[.string (bytes l)] w (BadAns w) := by
  have l1 : r1.length ≤ 16777216 := by have := until_len [60] (l, true); rw [H1] at this; exact Nat.le_trans this hl
  have l2 : r2.length ≤ 16777216 := by have := until_len [62] (r1, f1); rw [H2] at this; exact Nat.le_trans this l1
  have l3 : r3.length ≤ 16777216 := by have := until_len [32] (r2, f2); rw [H3] at this; exact Nat.le_trans this l2
  have l4 : r4.length ≤ 16777216 := by have := told_len (r3, f3); rw [K1] at this; exact Nat.le_trans this l3
  have l5 : r5.length ≤ 16777216 := by have := told_len (r4, f4); rw [K2] at this; exact Nat.le_trans this l4
  have l6 : r6.length ≤ 16777216 := by have := told_len (r5, f5); rw [K3] at this; exact Nat.le_trans this l5
  have l7 : r7.length ≤ 16777216 := by have := told_len (r6, f6); rw [K4] at this; exact Nat.le_trans this l6
  have J1 := Lib.hid H1
  have J2 := Lib.hid H2
  have J3 := Lib.hid H3
  have J4 := Lib.hid K1
  have J5 := Lib.hid K2
  have J6 := Lib.hid K3
  have J7 := Lib.hid K4
  have J8 := Lib.hid K5
  clear H1 H2 H3 K1 K2 K3 K4 K5
  have hsd : ∀ (X : World) (n : Nat) (p : Addr) (v : Value), (X.drewN n).setCell p v = (X.setCell p v).drewN n := fun _ _ _ _ => rfl
  obtain ⟨b1, hb1⟩ : ∃ b, decide (ahead = []) = b := ⟨_, rfl⟩
  obtain ⟨b2, hb2⟩ : ∃ b, decide (form = [49]) = b := ⟨_, rfl⟩
  have q1 : (bytes ahead).toList.isEmpty = b1 := by rw [bytes_empty, hb1]
  have q2 : ((bytes form).toList == [49]) = b2 := by
    rw [Lib.toList_data, bytes_list, ← hb2]
    by_cases hf : form = [49]
    · rw [hf, decide_eq_true rfl]; rfl
    · rw [decide_eq_false hf]; exact beq_eq_false_iff_ne.2 hf
  have hway : f8 = false ∨ (f8 = true ∧ b1 = false) ∨ (f8 = true ∧ b1 = true ∧ b2 = false) := by
    cases f8 with
    | false => exact .inl rfl
    | true =>
      cases hc1 : b1 with
      | false => exact .inr (.inl ⟨rfl, rfl⟩)
      | true =>
        cases hc2 : b2 with
        | false => exact .inr (.inr ⟨rfl, rfl, rfl⟩)
        | true =>
          rw [hc1] at hb1
          rw [hc2] at hb2
          exact absurd ⟨rfl, of_decide_eq_true hb1, of_decide_eq_true hb2⟩ hbad
  clear hb1 hb2 hbad
  go_enter Tryz.func23, Tryz.ntmps23
  go_wp2_with fail
  refine wp_scope_jumps 0 (GivesUp w) (fun _ _ => 0) rfl ?first ?pass
  case pass =>
    rintro a w1 ⟨ha, BB, hz, hfz, hex⟩
    obtain ⟨v0, e0⟩ := hex 0 (by decide)
    obtain ⟨v1, e1⟩ := hex 1 (by decide)
    obtain ⟨v2, e2⟩ := hex 2 (by decide)
    obtain ⟨v3, e3⟩ := hex 3 (by decide)
    obtain ⟨v4, e4⟩ := hex 4 (by decide)
    obtain ⟨v5, e5⟩ := hex 5 (by decide)
    obtain ⟨v6, e6⟩ := hex 6 (by decide)
    obtain ⟨v7, e7⟩ := hex 7 (by decide)
    obtain ⟨v8, e8⟩ := hex 8 (by decide)
    obtain ⟨v9, e9⟩ := hex 9 (by decide)
    clear hex J1 J2 J3 J4 J5 J6 J7 J8 hm
    have HBB := Lib.hid BB
    clear BB
    cases ha
    go_wp2
    change bodyPost Tryz.prog Tryz.f23 (BadAns w) Exit.ret _ _
    refine bodyPost_ret (v := .tuple #[.agg #[.int .i64 0, .int .i64 0, .bool false, .int .i64 0, .string ⟨#[]⟩, .string ⟨#[]⟩, .string ⟨#[]⟩, .string ⟨#[]⟩, .slice none 0 0, .string ⟨#[]⟩], .int .i64 3])
      (by simp [results, Tryz.results23, go_sem, e0, e1, e2, e3, e4, e5, e6, e7, e8, e9]) rfl ⟨rfl, ?_⟩
    exact (((((((((((HBB.out).setCell (p := ⟨w.heap.size, 0, none⟩) (Nat.le_refl _) _).setCell (p := ⟨w.heap.size, 1, none⟩) (Nat.le_refl _) _).setCell (p := ⟨w.heap.size, 2, none⟩) (Nat.le_refl _) _).setCell (p := ⟨w.heap.size, 3, none⟩) (Nat.le_refl _) _).setCell (p := ⟨w.heap.size, 4, none⟩) (Nat.le_refl _) _).setCell (p := ⟨w.heap.size, 5, none⟩) (Nat.le_refl _) _).setCell (p := ⟨w.heap.size, 6, none⟩) (Nat.le_refl _) _).setCell (p := ⟨w.heap.size, 7, none⟩) (Nat.le_refl _) _).setCell (p := ⟨w.heap.size, 8, none⟩) (Nat.le_refl _) _).setCell (p := ⟨w.heap.size, 9, none⟩) (Nat.le_refl _) _)
  go_wp2_with fail
  have w0 : ∃ c, (PW w E0 E0 l true).drew = (PW w E0 E0 l true).drewN c := ⟨1, rfl⟩
  go_region_held3 (fun w' => w'.cell? ⟨w.heap.size + 1 + 1 + 1 + 1, 0, none⟩ = some (.func (.func 53) #[] #[.pointer (some ⟨w.heap.size + 1 + 1, 0, none⟩), .pointer (some ⟨w.heap.size + 1 + 1 + 1, 0, none⟩)]))
    (first
      | assumption
      | exact pw_fun (by assumption)
      | exact pw_fun w0)
    (first
      | (go_at_call 53; (with_reducible refine (until_h (sep := ⟨#[60]⟩) w0 J1.out rfl hm hl).mono ?_); rintro e w' ⟨rfl, hx⟩)
      | (go_at_call 53; (with_reducible refine (until_h (sep := ⟨#[62]⟩) (by assumption) J2.out rfl hm l1).mono ?_); rintro e w' ⟨rfl, hx⟩)
      | (go_at_call 53; (with_reducible refine (until_h (sep := ⟨#[32]⟩) (by assumption) J3.out rfl hm l2).mono ?_); rintro e w' ⟨rfl, hx⟩))
  rename World => w3
  obtain ⟨c, hc⟩ : ∃ c, w3 = (PW w E0 E0 r3 f3).drewN c := by assumption
  subst hc
  rename_i hHeld
  clear hHeld w0
  go_wp2_with fail
  refine (told_t J4.out hm l3).mono ?_
  rintro e w' ⟨rfl, c', rfl⟩
  go_wp2_with fail
  refine (told_t J5.out hm l4).mono ?_
  rintro e w' ⟨rfl, c', rfl⟩
  go_wp2_with fail
  refine (told_t J6.out hm l5).mono ?_
  rintro e w' ⟨rfl, c', rfl⟩
  go_wp2_with fail
  refine (told_t J7.out hm l6).mono ?_
  rintro e w' ⟨rfl, c', rfl⟩
  go_wp2_with fail
  refine (told_t J8.out hm l7).mono ?_
  rintro e w' ⟨rfl, c', rfl⟩
  rcases hway with rfl | ⟨rfl, rfl⟩ | ⟨rfl, rfl, rfl⟩
  · go_wp2
    go_step3
    change 0 = 0 ∧ GivesUp w _ _
    exact ⟨rfl, (pw_up w _ r8 _ _).up (by constructor)⟩
  · go_wp2
    go_step3
    change 0 = 0 ∧ GivesUp w _ _
    exact ⟨rfl, (pw_up w _ r8 _ _).up (by constructor)⟩
  · go_wp2
    go_step3
    change 0 = 0 ∧ GivesUp w _ _
    exact ⟨rfl, (pw_up w _ r8 _ _).up (by constructor)⟩
end Go.Proofs.YtnaijahhogndjaaGreatDoor
