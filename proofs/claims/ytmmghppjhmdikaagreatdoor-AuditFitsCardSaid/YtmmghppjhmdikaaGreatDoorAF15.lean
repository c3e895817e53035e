/- The texts ParseBad, ParseFit, ParseUp5, one behind the other. -/
import Derived.Test.YtmmghppjhmdikaaGreatDoorAF34
/- What sysl.Parse answers where all fits its form, and the event isn't right: nothing, and ErrForm. Conditions: the tables stand; sizes. -/
namespace Go.Proofs.YtmmghppjhmdikaaGreatDoor
open Go.ChangeShapes Go.WideShapes Go.ChangeAt Go.RowKit

/-- What is answered of a text that is none: an empty event, ErrForm. -/
def BadAns (w : World) (e : Ending) (w' : World) : Prop :=
  e = .returned (.tuple #[.agg #[.int .i64 0, .int .i64 0, .bool false, .int .i64 0, .string ⟨#[]⟩, .string ⟨#[]⟩, .string ⟨#[]⟩, .string ⟨#[]⟩, .slice none 0 0, .string ⟨#[]⟩], .int .i64 3]) ∧ Below w.heap.size w w'
/-- What holds where Parse gives up. -/
def GivesUp (w : World) (a : Act) (w1 : World) : Prop :=
  Frame90 w.heap.size a ∧ Below w.heap.size w w1 ∧ w.heap.size < w1.heap.size ∧ (∀ o, w1.frozen? ⟨w.heap.size, o, none⟩ = false) ∧ ∀ i : Nat, i < 10 → ∃ v, w1.cell? ⟨w.heap.size, i, none⟩ = some v
set_option maxHeartbeats 4000000 in
set_option maxRecDepth 100000 in
theorem parse_bad (l r1 r2 r3 r4 r5 r6 r7 r8 r9 dec date h a p i tx : List UInt8) (fr gr at' : Int) (td : Bool) (es : List Elm) (w : World) (hS : Std w) (hm : Max w) (hl : l.length ≤ 16777216)
    (H1 : untilL [60] (l, true) = ([], r1, true)) (H2 : untilL [62] (r1, true) = (dec, r2, true)) (H3 : untilL [32] (r2, true) = ([49], r3, true)) (K1 : toldL (r3, true) = (date, r4, true))
    (K2 : toldL (r4, true) = (h, r5, true)) (K3 : toldL (r5, true) = (a, r6, true)) (K4 : toldL (r6, true) = (p, r7, true)) (K5 : toldL (r7, true) = (i, r8, true))
    (CO : ∀ W, Std W → Max W → Calls Tryz.prog 31 #[.string (bytes dec)] W fun e w' => e = .returned (.tuple #[.int .i64 fr, .int .i64 gr, .bool true]) ∧ Below W.heap.size W w')
    (CM : ∀ W, Std W → Max W → Calls Tryz.prog 32 #[.string (bytes date)] W fun e w' => e = .returned (.tuple #[.bool td, .int .i64 at', .bool true]) ∧ Below W.heap.size W w')
    (CE : ∀ W, Std W → Max W → Calls Tryz.prog 33 #[.string (bytes r8)] W fun e w' => ∃ la lc, e = .returned (.tuple #[.slice la es.length lc, .string (bytes r9), .bool true]) ∧ (∀ V, Agree W.heap.size w' V → ElmsAt V (.slice la es.length lc) es) ∧ Below W.heap.size W w')
    (CB : ∀ W, Std W → Max W → Calls Tryz.prog 34 #[.string (bytes r9)] W fun e w' => e = .returned (.tuple #[.string (bytes tx), .bool true]) ∧ Below W.heap.size W w')
    (hfit : ElmsFit es) (htx : tx.length ≤ 16777216) (R : Int) (hR : rightE ⟨gr, fr, td, at', bytes h, bytes a, bytes p, bytes i, es, bytes tx⟩ = R) (hR0 : R ≠ 0) :
    Calls Tryz.prog 16 #[.string (bytes l)] w (BadAns w) := by
  have l1 : r1.length ≤ 16777216 := by have := until_len [60] (l, true); rw [H1] at this; exact Nat.le_trans this hl
  have l2 : r2.length ≤ 16777216 := by have := until_len [62] (r1, true); rw [H2] at this; exact Nat.le_trans this l1
  have l3 : r3.length ≤ 16777216 := by have := until_len [32] (r2, true); rw [H3] at this; exact Nat.le_trans this l2
  have l4 : r4.length ≤ 16777216 := by have := told_len (r3, true); rw [K1] at this; exact Nat.le_trans this l3
  have l5 : r5.length ≤ 16777216 := by have := told_len (r4, true); rw [K2] at this; exact Nat.le_trans this l4
  have l6 : r6.length ≤ 16777216 := by have := told_len (r5, true); rw [K3] at this; exact Nat.le_trans this l5
  have l7 : r7.length ≤ 16777216 := by have := told_len (r6, true); rw [K4] at this; exact Nat.le_trans this l6
  have J1 := Lib.hid H1
  have J2 := Lib.hid H2
  have J3 := Lib.hid H3
  have J4 := Lib.hid K1
  have J5 := Lib.hid K2
  have J6 := Lib.hid K3
  have J7 := Lib.hid K4
  have J8 := Lib.hid K5
  have CO' := Lib.hid CO
  have CM' := Lib.hid CM
  have CE' := Lib.hid CE
  have CB' := Lib.hid CB
  have HRR := Lib.hid hR
  have HF := Lib.hid hfit
  clear H1 H2 H3 K1 K2 K3 K4 K5 CO CM CE CB hR hfit
  have hsd : ∀ (X : World) (n : Nat) (p : Addr) (v : Value), (X.drewN n).setCell p v = (X.setCell p v).drewN n := fun _ _ _ _ => rfl
  have q1 : (bytes []).toList.isEmpty = true := by rw [Lib.toList_data]; rfl
  have q2 : ((bytes [49]).toList == [49]) = true := by rw [Lib.toList_data]; rfl
  have hne : (R != 0) = true := by rw [bne, beq_eq_false_iff_ne.2 hR0]; rfl
  clear hR0
  go_enter Tryz.func16, Tryz.ntmps16
  go_wp2_with fail
  refine wp_scope_jumps 0 (GivesUp w) (fun _ _ => 0) rfl ?first ?pass
  case pass =>
    rintro a w1 ⟨ha, BB, hz, hfz, hex⟩
    obtain ⟨v0, e0⟩ := hex 0 (by decide)
    obtain ⟨v1, e1⟩ := hex 1 (by decide)
    obtain ⟨v2, e2⟩ := hex 2 (by decide)
    obtain ⟨v3, e3⟩ := hex 3 (by decide)
    obtain ⟨v4, e4⟩ := hex 4 (by decide)
    obtain ⟨v5, e5⟩ := hex 5 (by decide)
    obtain ⟨v6, e6⟩ := hex 6 (by decide)
    obtain ⟨v7, e7⟩ := hex 7 (by decide)
    obtain ⟨v8, e8⟩ := hex 8 (by decide)
    obtain ⟨v9, e9⟩ := hex 9 (by decide)
    clear hex J1 J2 J3 J4 J5 J6 J7 J8 CO' CM' CE' CB' HRR HF hS hm
    have HBB := Lib.hid BB
    clear BB
    cases ha
    go_wp2
    change bodyPost Tryz.prog Tryz.f16 (BadAns w) Exit.ret _ _
    refine bodyPost_ret (v := .tuple #[.agg #[.int .i64 0, .int .i64 0, .bool false, .int .i64 0, .string ⟨#[]⟩, .string ⟨#[]⟩, .string ⟨#[]⟩, .string ⟨#[]⟩, .slice none 0 0, .string ⟨#[]⟩], .int .i64 3])
      (by simp [results, Tryz.results16, go_sem, e0, e1, e2, e3, e4, e5, e6, e7, e8, e9]) rfl ⟨rfl, ?_⟩
    exact (((((((((((HBB.out).setCell (p := ⟨w.heap.size, 0, none⟩) (Nat.le_refl _) _).setCell (p := ⟨w.heap.size, 1, none⟩) (Nat.le_refl _) _).setCell (p := ⟨w.heap.size, 2, none⟩) (Nat.le_refl _) _).setCell (p := ⟨w.heap.size, 3, none⟩) (Nat.le_refl _) _).setCell (p := ⟨w.heap.size, 4, none⟩) (Nat.le_refl _) _).setCell (p := ⟨w.heap.size, 5, none⟩) (Nat.le_refl _) _).setCell (p := ⟨w.heap.size, 6, none⟩) (Nat.le_refl _) _).setCell (p := ⟨w.heap.size, 7, none⟩) (Nat.le_refl _) _).setCell (p := ⟨w.heap.size, 8, none⟩) (Nat.le_refl _) _).setCell (p := ⟨w.heap.size, 9, none⟩) (Nat.le_refl _) _)
  go_wp2_with fail
  have w0 : ∃ c, (PW w E0 E0 l true).drew = (PW w E0 E0 l true).drewN c := ⟨1, rfl⟩
  go_region_held3 (fun w' => w'.cell? ⟨w.heap.size + 1 + 1 + 1 + 1, 0, none⟩ = some (.func (.func 28) #[] #[.pointer (some ⟨w.heap.size + 1 + 1, 0, none⟩), .pointer (some ⟨w.heap.size + 1 + 1 + 1, 0, none⟩)]))
    (first
      | assumption
      | exact pw_fun (by assumption)
      | exact pw_fun w0)
    (first
      | (go_at_call 28; (with_reducible refine (until_h (sep := ⟨#[60]⟩) w0 J1.out rfl hm hl).mono ?_); rintro e w' ⟨rfl, hx⟩)
      | (go_at_call 28; (with_reducible refine (until_h (sep := ⟨#[62]⟩) (by assumption) J2.out rfl hm l1).mono ?_); rintro e w' ⟨rfl, hx⟩)
      | (go_at_call 28; (with_reducible refine (until_h (sep := ⟨#[32]⟩) (by assumption) J3.out rfl hm l2).mono ?_); rintro e w' ⟨rfl, hx⟩))
  rename World => w3
  obtain ⟨c, hc⟩ : ∃ c, w3 = (PW w E0 E0 r3 true).drewN c := by assumption
  subst hc
  rename_i hHeld
  clear hHeld w0
  go_wp2_with fail
  refine (told_t J4.out hm l3).mono ?_
  rintro e w' ⟨rfl, c', rfl⟩
  go_wp2_with fail
  refine (told_t J5.out hm l4).mono ?_
  rintro e w' ⟨rfl, c', rfl⟩
  go_wp2_with fail
  refine (told_t J6.out hm l5).mono ?_
  rintro e w' ⟨rfl, c', rfl⟩
  go_wp2_with fail
  refine (told_t J7.out hm l6).mono ?_
  rintro e w' ⟨rfl, c', rfl⟩
  go_wp2_with fail
  refine (told_t J8.out hm l7).mono ?_
  rintro e w' ⟨rfl, c', rfl⟩
  go_wp2_with fail
  obtain ⟨W0, hW0⟩ : ∃ W0, ((((((w.alloc E0).alloc (.cells #[.int .i64 0, .int .i64 0, .bool false, .int .i64 0, .string (bytes h), .string (bytes a), .string (bytes p), .string (bytes i), .slice none 0 0, .string ⟨#[]⟩] 29)).alloc (.cells #[.string (bytes r8)] 9)).alloc (.cells #[.bool true] 4)).alloc (.cells #[.func (.func 28) #[] #[.pointer (some ⟨w.heap.size + 2, 0, none⟩), .pointer (some ⟨w.heap.size + 3, 0, none⟩)]] 80)).drewN c') = W0 := ⟨_, rfl⟩
  have hP0 : PAt w W0 (.int .i64 0) (.int .i64 0) (.bool false) (.int .i64 0) (.string (bytes h)) (.string (bytes a)) (.string (bytes p)) (.string (bytes i)) (.slice none 0 0) (.string ⟨#[]⟩) r8 := by
    rw [← hW0]
    constructor
    · simp [go_sem]
    · simp [go_sem]
    · simp [go_sem]
    · simp [go_sem]
    · simp [go_sem]
    · simp [go_sem]
    · simp [go_sem]
    · simp [go_sem]
    · simp [go_sem]
    · simp [go_sem]
    · simp [go_sem]
    · simp [go_sem]
    · simp <;> omega
    · intro o; simp [go_sem]
    · intro o; simp [go_sem]
    · intro o; simp [go_sem]
    · intro o; simp [go_sem]
    · exact (((((((Below.refl _ _).alloc (Nat.le_refl _) _).alloc (by simp) _).alloc (by simp <;> omega) _).alloc (by simp <;> omega) _).alloc (by simp <;> omega) _)).trans ((drewN_below _ _).mono (by simp <;> omega))
    · intro k hk
      match k, hk with
      | 0, _ => exact ⟨.int .i64 0, by simp [go_sem]⟩
      | 1, _ => exact ⟨.int .i64 0, by simp [go_sem]⟩
      | 2, _ => exact ⟨.bool false, by simp [go_sem]⟩
      | 3, _ => exact ⟨.int .i64 0, by simp [go_sem]⟩
      | 4, _ => exact ⟨.string ⟨#[]⟩, by simp [go_sem]⟩
      | 5, _ => exact ⟨.string ⟨#[]⟩, by simp [go_sem]⟩
      | 6, _ => exact ⟨.string ⟨#[]⟩, by simp [go_sem]⟩
      | 7, _ => exact ⟨.string ⟨#[]⟩, by simp [go_sem]⟩
      | 8, _ => exact ⟨.slice none 0 0, by simp [go_sem]⟩
      | 9, _ => exact ⟨.string ⟨#[]⟩, by simp [go_sem]⟩
  rw [hW0]
  clear hW0
  refine (CO'.out _ (hS.below hP0.b) (hm.below hP0.b)).mono ?_
  rintro e W1 ⟨rfl, hb1⟩
  have hP1 := hP0.below hb1
  clear hb1 hP0
  have k0 := hP1.k0
  have k1 := hP1.k1
  have k2 := hP1.k2
  have k3 := hP1.k3
  have k4 := hP1.k4
  have k5 := hP1.k5
  have k6 := hP1.k6
  have k7 := hP1.k7
  have k8 := hP1.k8
  have k9 := hP1.k9
  have kr : W1.cell? ⟨w.heap.size + 1 + 1, 0, none⟩ = some (.string (bytes r8)) := hP1.kr
  have kf : W1.cell? ⟨w.heap.size + 1 + 1 + 1, 0, none⟩ = some (.bool true) := hP1.kf
  have f0 := hP1.f0
  have f1 := hP1.f1
  have f2 : ∀ o, W1.frozen? ⟨w.heap.size + 1 + 1, o, none⟩ = false := hP1.f2
  have f3 : ∀ o, W1.frozen? ⟨w.heap.size + 1 + 1 + 1, o, none⟩ = false := hP1.f3
  go_wp2_with fail
  have hP2 := ((hP1.set1 (.int .i64 fr)).set0 (.int .i64 gr)).setf
  clear k0 k1 k2 k3 k4 k5 k6 k7 k8 k9 kr kf f0 f1 f2 f3
  refine (CM'.out _ (hS.below hP2.b) (hm.below hP2.b)).mono ?_
  rintro e W2 ⟨rfl, hb2⟩
  have hP3 := hP2.below hb2
  clear hb2 hP2 hP1
  have k0 := hP3.k0
  have k1 := hP3.k1
  have k2 := hP3.k2
  have k3 := hP3.k3
  have k4 := hP3.k4
  have k5 := hP3.k5
  have k6 := hP3.k6
  have k7 := hP3.k7
  have k8 := hP3.k8
  have k9 := hP3.k9
  have kr : W2.cell? ⟨w.heap.size + 1 + 1, 0, none⟩ = some (.string (bytes r8)) := hP3.kr
  have kf : W2.cell? ⟨w.heap.size + 1 + 1 + 1, 0, none⟩ = some (.bool true) := hP3.kf
  have f0 := hP3.f0
  have f1 := hP3.f1
  have f2 : ∀ o, W2.frozen? ⟨w.heap.size + 1 + 1, o, none⟩ = false := hP3.f2
  have f3 : ∀ o, W2.frozen? ⟨w.heap.size + 1 + 1 + 1, o, none⟩ = false := hP3.f3
  go_wp2_with fail
  have hP4 := ((hP3.set2 (.bool td)).set3 (.int .i64 at')).setf
  clear k0 k1 k2 k3 k4 k5 k6 k7 k8 k9 kr kf f0 f1 f2 f3
  have hlo := hP4.z
  refine (CE'.out _ (hS.below hP4.b) (hm.below hP4.b)).mono ?_
  rintro e W3 ⟨la, lc, rfl, hag, hb3⟩
  have hP5 := hP4.below hb3
  clear hb3 hP4 hP3
  have HAG := Lib.hid hag
  clear hag
  have k0 := hP5.k0
  have k1 := hP5.k1
  have k2 := hP5.k2
  have k3 := hP5.k3
  have k4 := hP5.k4
  have k5 := hP5.k5
  have k6 := hP5.k6
  have k7 := hP5.k7
  have k8 := hP5.k8
  have k9 := hP5.k9
  have kr : W3.cell? ⟨w.heap.size + 1 + 1, 0, none⟩ = some (.string (bytes r8)) := hP5.kr
  have kf : W3.cell? ⟨w.heap.size + 1 + 1 + 1, 0, none⟩ = some (.bool true) := hP5.kf
  have f0 := hP5.f0
  have f1 := hP5.f1
  have f2 : ∀ o, W3.frozen? ⟨w.heap.size + 1 + 1, o, none⟩ = false := hP5.f2
  have f3 : ∀ o, W3.frozen? ⟨w.heap.size + 1 + 1 + 1, o, none⟩ = false := hP5.f3
  go_wp2_with fail
  have hP6 := ((hP5.set8 (.slice la es.length lc)).setr r9).setf
  clear k0 k1 k2 k3 k4 k5 k6 k7 k8 k9 kr kf f0 f1 f2 f3
  obtain ⟨LO, hLO⟩ : ∃ LO, (((W2.setCell ⟨w.heap.size + 1, 2, none⟩ (.bool td)).setCell ⟨w.heap.size + 1, 3, none⟩ (.int .i64 at')).setCell ⟨w.heap.size + 1 + 1 + 1, 0, none⟩ (.bool true)).heap.size = LO := ⟨_, rfl⟩
  rw [hLO] at HAG hlo
  clear hLO
  have ag1 := (((Agree.refl LO W3).set (b0 := w.heap.size + 1) (o0 := 8) (by omega) (.slice la es.length lc)).set (b0 := w.heap.size + 1 + 1) (o0 := 0) (by omega) (.string (bytes r9))).set (b0 := w.heap.size + 1 + 1 + 1) (o0 := 0) (by omega) (.bool true)
  refine (CB'.out _ (hS.below hP6.b) (hm.below hP6.b)).mono ?_
  rintro e W4 ⟨rfl, hb4⟩
  have hP7 := hP6.below hb4
  have ag2 := ag1.below hb4
  clear hP6 hP5 ag1
  have k0 := hP7.k0
  have k1 := hP7.k1
  have k2 := hP7.k2
  have k3 := hP7.k3
  have k4 := hP7.k4
  have k5 := hP7.k5
  have k6 := hP7.k6
  have k7 := hP7.k7
  have k8 := hP7.k8
  have k9 := hP7.k9
  have kr : W4.cell? ⟨w.heap.size + 1 + 1, 0, none⟩ = some (.string (bytes r9)) := hP7.kr
  have kf : W4.cell? ⟨w.heap.size + 1 + 1 + 1, 0, none⟩ = some (.bool true) := hP7.kf
  have f0 := hP7.f0
  have f1 := hP7.f1
  have f2 : ∀ o, W4.frozen? ⟨w.heap.size + 1 + 1, o, none⟩ = false := hP7.f2
  have f3 : ∀ o, W4.frozen? ⟨w.heap.size + 1 + 1 + 1, o, none⟩ = false := hP7.f3
  go_wp2_with fail
  have hP8 := (hP7.set9 (.string (bytes tx))).setf
  clear k0 k1 k2 k3 k4 k5 k6 k7 k8 k9 kr kf f0 f1 f2 f3
  have ag3 := (ag2.set (b0 := w.heap.size + 1) (o0 := 9) (by omega) (.string (bytes tx))).set (b0 := w.heap.size + 1 + 1 + 1) (o0 := 0) (by omega) (.bool true)
  have hEl := HAG.out _ ag3
  have s1 : h.length ≤ 16777216 := Nat.le_trans (toldp_len J5.out) l4
  have s2 : a.length ≤ 16777216 := Nat.le_trans (toldp_len J6.out) l5
  have s3 : p.length ≤ 16777216 := Nat.le_trans (toldp_len J7.out) l6
  have s4 : i.length ≤ 16777216 := Nat.le_trans (toldp_len J8.out) l7
  have hRt := right_any ⟨gr, fr, td, at', bytes h, bytes a, bytes p, bytes i, es, bytes tx⟩ (.slice la es.length lc) _ (hS.below hP8.b) ⟨hEl, HF.out, by rw [bytes_size]; exact Nat.le_trans s1 (by decide), by rw [bytes_size]; exact Nat.le_trans s2 (by decide), by rw [bytes_size]; exact Nat.le_trans s3 (by decide), by rw [bytes_size]; exact Nat.le_trans s4 (by decide), by rw [bytes_size]; exact Nat.le_trans htx (by decide)⟩
  rw [HRR.out] at hRt
  clear s1 s2 s3 s4 hEl
  refine hRt.mono ?_
  rintro e W5 ⟨rfl, hb5⟩
  have hP9 := hP8.below hb5
  have AG := Lib.hid (ag3.below hb5)
  clear hRt hb5 hP8 hP7 ag3 ag2
  have k0 := hP9.k0
  have k1 := hP9.k1
  have k2 := hP9.k2
  have k3 := hP9.k3
  have k4 := hP9.k4
  have k5 := hP9.k5
  have k6 := hP9.k6
  have k7 := hP9.k7
  have k8 := hP9.k8
  have k9 := hP9.k9
  have kr : W5.cell? ⟨w.heap.size + 1 + 1, 0, none⟩ = some (.string (bytes r9)) := hP9.kr
  have kf : W5.cell? ⟨w.heap.size + 1 + 1 + 1, 0, none⟩ = some (.bool true) := hP9.kf
  have f0 := hP9.f0
  have f1 := hP9.f1
  have f2 : ∀ o, W5.frozen? ⟨w.heap.size + 1 + 1, o, none⟩ = false := hP9.f2
  have f3 : ∀ o, W5.frozen? ⟨w.heap.size + 1 + 1 + 1, o, none⟩ = false := hP9.f3
  have BB := hP9.b
  have HE := Lib.hid hP9.e
  have HZ := Lib.hid hP9.z
  have HF0 := Lib.hid hP9.f0
  go_wp2
  go_step3
  change 0 = 0 ∧ GivesUp w _ _
  exact ⟨rfl, by constructor, BB, by have := HZ.out; omega, HF0.out, HE.out⟩
end Go.Proofs.YtmmghppjhmdikaaGreatDoor
/- What sysl.Parse answers, the calls' answers told of the worlds behind its own. Where all fits. -/
namespace Go.Proofs.YtmmghppjhmdikaaGreatDoor
open Go.ChangeShapes Go.WideShapes Go.ChangeAt Go.RowKit

set_option maxHeartbeats 4000000 in
set_option maxRecDepth 100000 in
theorem parse_fit (l r1 r2 r3 r4 r5 r6 r7 r8 r9 dec date h a p i tx : List UInt8) (fr gr at' : Int) (td : Bool) (es : List Elm) (w : World) (hS : Std w) (hm : Max w) (hl : l.length ≤ 16777216)
    (H1 : untilL [60] (l, true) = ([], r1, true)) (H2 : untilL [62] (r1, true) = (dec, r2, true)) (H3 : untilL [32] (r2, true) = ([49], r3, true)) (K1 : toldL (r3, true) = (date, r4, true))
    (K2 : toldL (r4, true) = (h, r5, true)) (K3 : toldL (r5, true) = (a, r6, true)) (K4 : toldL (r6, true) = (p, r7, true)) (K5 : toldL (r7, true) = (i, r8, true))
    (CO : ∀ W, Below w.heap.size w W → Calls Tryz.prog 31 #[.string (bytes dec)] W fun e w' => e = .returned (.tuple #[.int .i64 fr, .int .i64 gr, .bool true]) ∧ Below W.heap.size W w')
    (CM : ∀ W, Below w.heap.size w W → Calls Tryz.prog 32 #[.string (bytes date)] W fun e w' => e = .returned (.tuple #[.bool td, .int .i64 at', .bool true]) ∧ Below W.heap.size W w')
    (CE : ∀ W, Below w.heap.size w W → Calls Tryz.prog 33 #[.string (bytes r8)] W fun e w' => ∃ la lc, e = .returned (.tuple #[.slice la es.length lc, .string (bytes r9), .bool true]) ∧ (∀ V, Agree W.heap.size w' V → ElmsAt V (.slice la es.length lc) es) ∧ Below W.heap.size W w')
    (CB : ∀ W, Below w.heap.size w W → Calls Tryz.prog 34 #[.string (bytes r9)] W fun e w' => e = .returned (.tuple #[.string (bytes tx), .bool true]) ∧ Below W.heap.size W w')
    (hfit : ElmsFit es) (htx : tx.length ≤ 16777216) (hR : rightE ⟨gr, fr, td, at', bytes h, bytes a, bytes p, bytes i, es, bytes tx⟩ = 0) :
    Calls Tryz.prog 16 #[.string (bytes l)] w (GoodAns gr fr td at' h a p i tx es w) := by
  have l1 : r1.length ≤ 16777216 := by have := until_len [60] (l, true); rw [H1] at this; exact Nat.le_trans this hl
  have l2 : r2.length ≤ 16777216 := by have := until_len [62] (r1, true); rw [H2] at this; exact Nat.le_trans this l1
  have l3 : r3.length ≤ 16777216 := by have := until_len [32] (r2, true); rw [H3] at this; exact Nat.le_trans this l2
  have l4 : r4.length ≤ 16777216 := by have := told_len (r3, true); rw [K1] at this; exact Nat.le_trans this l3
  have l5 : r5.length ≤ 16777216 := by have := told_len (r4, true); rw [K2] at this; exact Nat.le_trans this l4
  have l6 : r6.length ≤ 16777216 := by have := told_len (r5, true); rw [K3] at this; exact Nat.le_trans this l5
  have l7 : r7.length ≤ 16777216 := by have := told_len (r6, true); rw [K4] at this; exact Nat.le_trans this l6
  have J1 := Lib.hid H1
  have J2 := Lib.hid H2
  have J3 := Lib.hid H3
  have J4 := Lib.hid K1
  have J5 := Lib.hid K2
  have J6 := Lib.hid K3
  have J7 := Lib.hid K4
  have J8 := Lib.hid K5
  have CO' := Lib.hid CO
  have CM' := Lib.hid CM
  have CE' := Lib.hid CE
  have CB' := Lib.hid CB
  have HRR := Lib.hid hR
  have HF := Lib.hid hfit
  clear H1 H2 H3 K1 K2 K3 K4 K5 CO CM CE CB hR hfit
  have hsd : ∀ (X : World) (n : Nat) (p : Addr) (v : Value), (X.drewN n).setCell p v = (X.setCell p v).drewN n := fun _ _ _ _ => rfl
  have q1 : (bytes []).toList.isEmpty = true := by rw [Lib.toList_data]; rfl
  have q2 : ((bytes [49]).toList == [49]) = true := by rw [Lib.toList_data]; rfl
  go_enter Tryz.func16, Tryz.ntmps16
  go_wp2_with fail
  refine wp_scope_jumps 0 (fun _ _ => False) (fun _ _ => 0) rfl ?first ?pass
  case pass => exact fun _ _ h => h.elim
  go_wp2_with fail
  have w0 : ∃ c, (PW w E0 E0 l true).drew = (PW w E0 E0 l true).drewN c := ⟨1, rfl⟩
  go_region_held3 (fun w' => w'.cell? ⟨w.heap.size + 1 + 1 + 1 + 1, 0, none⟩ = some (.func (.func 28) #[] #[.pointer (some ⟨w.heap.size + 1 + 1, 0, none⟩), .pointer (some ⟨w.heap.size + 1 + 1 + 1, 0, none⟩)]))
    (first
      | assumption
      | exact pw_fun (by assumption)
      | exact pw_fun w0)
    (first
      | (go_at_call 28; (with_reducible refine (until_h (sep := ⟨#[60]⟩) w0 J1.out rfl hm hl).mono ?_); rintro e w' ⟨rfl, hx⟩)
      | (go_at_call 28; (with_reducible refine (until_h (sep := ⟨#[62]⟩) (by assumption) J2.out rfl hm l1).mono ?_); rintro e w' ⟨rfl, hx⟩)
      | (go_at_call 28; (with_reducible refine (until_h (sep := ⟨#[32]⟩) (by assumption) J3.out rfl hm l2).mono ?_); rintro e w' ⟨rfl, hx⟩))
  rename World => w3
  obtain ⟨c, hc⟩ : ∃ c, w3 = (PW w E0 E0 r3 true).drewN c := by assumption
  subst hc
  rename_i hHeld
  clear hHeld w0
  go_wp2_with fail
  refine (told_t J4.out hm l3).mono ?_
  rintro e w' ⟨rfl, c', rfl⟩
  go_wp2_with fail
  refine (told_t J5.out hm l4).mono ?_
  rintro e w' ⟨rfl, c', rfl⟩
  go_wp2_with fail
  refine (told_t J6.out hm l5).mono ?_
  rintro e w' ⟨rfl, c', rfl⟩
  go_wp2_with fail
  refine (told_t J7.out hm l6).mono ?_
  rintro e w' ⟨rfl, c', rfl⟩
  go_wp2_with fail
  refine (told_t J8.out hm l7).mono ?_
  rintro e w' ⟨rfl, c', rfl⟩
  go_wp2_with fail
  obtain ⟨W0, hW0⟩ : ∃ W0, ((((((w.alloc E0).alloc (.cells #[.int .i64 0, .int .i64 0, .bool false, .int .i64 0, .string (bytes h), .string (bytes a), .string (bytes p), .string (bytes i), .slice none 0 0, .string ⟨#[]⟩] 29)).alloc (.cells #[.string (bytes r8)] 9)).alloc (.cells #[.bool true] 4)).alloc (.cells #[.func (.func 28) #[] #[.pointer (some ⟨w.heap.size + 2, 0, none⟩), .pointer (some ⟨w.heap.size + 3, 0, none⟩)]] 80)).drewN c') = W0 := ⟨_, rfl⟩
  have hP0 : PAt w W0 (.int .i64 0) (.int .i64 0) (.bool false) (.int .i64 0) (.string (bytes h)) (.string (bytes a)) (.string (bytes p)) (.string (bytes i)) (.slice none 0 0) (.string ⟨#[]⟩) r8 := by
    rw [← hW0]
    constructor
    · simp [go_sem]
    · simp [go_sem]
    · simp [go_sem]
    · simp [go_sem]
    · simp [go_sem]
    · simp [go_sem]
    · simp [go_sem]
    · simp [go_sem]
    · simp [go_sem]
    · simp [go_sem]
    · simp [go_sem]
    · simp [go_sem]
    · simp <;> omega
    · intro o; simp [go_sem]
    · intro o; simp [go_sem]
    · intro o; simp [go_sem]
    · intro o; simp [go_sem]
    · exact (((((((Below.refl _ _).alloc (Nat.le_refl _) _).alloc (by simp) _).alloc (by simp <;> omega) _).alloc (by simp <;> omega) _).alloc (by simp <;> omega) _)).trans ((drewN_below _ _).mono (by simp <;> omega))
    · intro k hk
      match k, hk with
      | 0, _ => exact ⟨.int .i64 0, by simp [go_sem]⟩
      | 1, _ => exact ⟨.int .i64 0, by simp [go_sem]⟩
      | 2, _ => exact ⟨.bool false, by simp [go_sem]⟩
      | 3, _ => exact ⟨.int .i64 0, by simp [go_sem]⟩
      | 4, _ => exact ⟨.string ⟨#[]⟩, by simp [go_sem]⟩
      | 5, _ => exact ⟨.string ⟨#[]⟩, by simp [go_sem]⟩
      | 6, _ => exact ⟨.string ⟨#[]⟩, by simp [go_sem]⟩
      | 7, _ => exact ⟨.string ⟨#[]⟩, by simp [go_sem]⟩
      | 8, _ => exact ⟨.slice none 0 0, by simp [go_sem]⟩
      | 9, _ => exact ⟨.string ⟨#[]⟩, by simp [go_sem]⟩
  rw [hW0]
  clear hW0
  refine (CO'.out _ hP0.b).mono ?_
  rintro e W1 ⟨rfl, hb1⟩
  have hP1 := hP0.below hb1
  clear hb1 hP0
  have k0 := hP1.k0
  have k1 := hP1.k1
  have k2 := hP1.k2
  have k3 := hP1.k3
  have k4 := hP1.k4
  have k5 := hP1.k5
  have k6 := hP1.k6
  have k7 := hP1.k7
  have k8 := hP1.k8
  have k9 := hP1.k9
  have kr : W1.cell? ⟨w.heap.size + 1 + 1, 0, none⟩ = some (.string (bytes r8)) := hP1.kr
  have kf : W1.cell? ⟨w.heap.size + 1 + 1 + 1, 0, none⟩ = some (.bool true) := hP1.kf
  have f0 := hP1.f0
  have f1 := hP1.f1
  have f2 : ∀ o, W1.frozen? ⟨w.heap.size + 1 + 1, o, none⟩ = false := hP1.f2
  have f3 : ∀ o, W1.frozen? ⟨w.heap.size + 1 + 1 + 1, o, none⟩ = false := hP1.f3
  go_wp2_with fail
  have hP2 := ((hP1.set1 (.int .i64 fr)).set0 (.int .i64 gr)).setf
  clear k0 k1 k2 k3 k4 k5 k6 k7 k8 k9 kr kf f0 f1 f2 f3
  refine (CM'.out _ hP2.b).mono ?_
  rintro e W2 ⟨rfl, hb2⟩
  have hP3 := hP2.below hb2
  clear hb2 hP2 hP1
  have k0 := hP3.k0
  have k1 := hP3.k1
  have k2 := hP3.k2
  have k3 := hP3.k3
  have k4 := hP3.k4
  have k5 := hP3.k5
  have k6 := hP3.k6
  have k7 := hP3.k7
  have k8 := hP3.k8
  have k9 := hP3.k9
  have kr : W2.cell? ⟨w.heap.size + 1 + 1, 0, none⟩ = some (.string (bytes r8)) := hP3.kr
  have kf : W2.cell? ⟨w.heap.size + 1 + 1 + 1, 0, none⟩ = some (.bool true) := hP3.kf
  have f0 := hP3.f0
  have f1 := hP3.f1
  have f2 : ∀ o, W2.frozen? ⟨w.heap.size + 1 + 1, o, none⟩ = false := hP3.f2
  have f3 : ∀ o, W2.frozen? ⟨w.heap.size + 1 + 1 + 1, o, none⟩ = false := hP3.f3
  go_wp2_with fail
  have hP4 := ((hP3.set2 (.bool td)).set3 (.int .i64 at')).setf
  clear k0 k1 k2 k3 k4 k5 k6 k7 k8 k9 kr kf f0 f1 f2 f3
  have hlo := hP4.z
  refine (CE'.out _ hP4.b).mono ?_
  rintro e W3 ⟨la, lc, rfl, hag, hb3⟩
  have hP5 := hP4.below hb3
  clear hb3 hP4 hP3
  have HAG := Lib.hid hag
  clear hag
  have k0 := hP5.k0
  have k1 := hP5.k1
  have k2 := hP5.k2
  have k3 := hP5.k3
  have k4 := hP5.k4
  have k5 := hP5.k5
  have k6 := hP5.k6
  have k7 := hP5.k7
  have k8 := hP5.k8
  have k9 := hP5.k9
  have kr : W3.cell? ⟨w.heap.size + 1 + 1, 0, none⟩ = some (.string (bytes r8)) := hP5.kr
  have kf : W3.cell? ⟨w.heap.size + 1 + 1 + 1, 0, none⟩ = some (.bool true) := hP5.kf
  have f0 := hP5.f0
  have f1 := hP5.f1
  have f2 : ∀ o, W3.frozen? ⟨w.heap.size + 1 + 1, o, none⟩ = false := hP5.f2
  have f3 : ∀ o, W3.frozen? ⟨w.heap.size + 1 + 1 + 1, o, none⟩ = false := hP5.f3
  go_wp2_with fail
  have hP6 := ((hP5.set8 (.slice la es.length lc)).setr r9).setf
  clear k0 k1 k2 k3 k4 k5 k6 k7 k8 k9 kr kf f0 f1 f2 f3
  obtain ⟨LO, hLO⟩ : ∃ LO, (((W2.setCell ⟨w.heap.size + 1, 2, none⟩ (.bool td)).setCell ⟨w.heap.size + 1, 3, none⟩ (.int .i64 at')).setCell ⟨w.heap.size + 1 + 1 + 1, 0, none⟩ (.bool true)).heap.size = LO := ⟨_, rfl⟩
  rw [hLO] at HAG hlo
  clear hLO
  have ag1 := (((Agree.refl LO W3).set (b0 := w.heap.size + 1) (o0 := 8) (by omega) (.slice la es.length lc)).set (b0 := w.heap.size + 1 + 1) (o0 := 0) (by omega) (.string (bytes r9))).set (b0 := w.heap.size + 1 + 1 + 1) (o0 := 0) (by omega) (.bool true)
  refine (CB'.out _ hP6.b).mono ?_
  rintro e W4 ⟨rfl, hb4⟩
  have hP7 := hP6.below hb4
  have ag2 := ag1.below hb4
  clear hP6 hP5 ag1
  have k0 := hP7.k0
  have k1 := hP7.k1
  have k2 := hP7.k2
  have k3 := hP7.k3
  have k4 := hP7.k4
  have k5 := hP7.k5
  have k6 := hP7.k6
  have k7 := hP7.k7
  have k8 := hP7.k8
  have k9 := hP7.k9
  have kr : W4.cell? ⟨w.heap.size + 1 + 1, 0, none⟩ = some (.string (bytes r9)) := hP7.kr
  have kf : W4.cell? ⟨w.heap.size + 1 + 1 + 1, 0, none⟩ = some (.bool true) := hP7.kf
  have f0 := hP7.f0
  have f1 := hP7.f1
  have f2 : ∀ o, W4.frozen? ⟨w.heap.size + 1 + 1, o, none⟩ = false := hP7.f2
  have f3 : ∀ o, W4.frozen? ⟨w.heap.size + 1 + 1 + 1, o, none⟩ = false := hP7.f3
  go_wp2_with fail
  have hP8 := (hP7.set9 (.string (bytes tx))).setf
  clear k0 k1 k2 k3 k4 k5 k6 k7 k8 k9 kr kf f0 f1 f2 f3
  have ag3 := (ag2.set (b0 := w.heap.size + 1) (o0 := 9) (by omega) (.string (bytes tx))).set (b0 := w.heap.size + 1 + 1 + 1) (o0 := 0) (by omega) (.bool true)
  have hEl := HAG.out _ ag3
  have s1 : h.length ≤ 16777216 := Nat.le_trans (toldp_len J5.out) l4
  have s2 : a.length ≤ 16777216 := Nat.le_trans (toldp_len J6.out) l5
  have s3 : p.length ≤ 16777216 := Nat.le_trans (toldp_len J7.out) l6
  have s4 : i.length ≤ 16777216 := Nat.le_trans (toldp_len J8.out) l7
  have hRt := right_any ⟨gr, fr, td, at', bytes h, bytes a, bytes p, bytes i, es, bytes tx⟩ (.slice la es.length lc) _ (hS.below hP8.b) ⟨hEl, HF.out, by rw [bytes_size]; exact Nat.le_trans s1 (by decide), by rw [bytes_size]; exact Nat.le_trans s2 (by decide), by rw [bytes_size]; exact Nat.le_trans s3 (by decide), by rw [bytes_size]; exact Nat.le_trans s4 (by decide), by rw [bytes_size]; exact Nat.le_trans htx (by decide)⟩
  rw [HRR.out] at hRt
  clear s1 s2 s3 s4 hEl
  refine hRt.mono ?_
  rintro e W5 ⟨rfl, hb5⟩
  have hP9 := hP8.below hb5
  have AG := Lib.hid (ag3.below hb5)
  clear hRt hb5 hP8 hP7 ag3 ag2
  have k0 := hP9.k0
  have k1 := hP9.k1
  have k2 := hP9.k2
  have k3 := hP9.k3
  have k4 := hP9.k4
  have k5 := hP9.k5
  have k6 := hP9.k6
  have k7 := hP9.k7
  have k8 := hP9.k8
  have k9 := hP9.k9
  have kr : W5.cell? ⟨w.heap.size + 1 + 1, 0, none⟩ = some (.string (bytes r9)) := hP9.kr
  have kf : W5.cell? ⟨w.heap.size + 1 + 1 + 1, 0, none⟩ = some (.bool true) := hP9.kf
  have f0 := hP9.f0
  have f1 := hP9.f1
  have f2 : ∀ o, W5.frozen? ⟨w.heap.size + 1 + 1, o, none⟩ = false := hP9.f2
  have f3 : ∀ o, W5.frozen? ⟨w.heap.size + 1 + 1 + 1, o, none⟩ = false := hP9.f3
  have BB := hP9.b
  obtain ⟨v0, e0⟩ := hP9.e 0 (by decide)
  obtain ⟨v1, e1⟩ := hP9.e 1 (by decide)
  obtain ⟨v2, e2⟩ := hP9.e 2 (by decide)
  obtain ⟨v3, e3⟩ := hP9.e 3 (by decide)
  obtain ⟨v4, e4⟩ := hP9.e 4 (by decide)
  obtain ⟨v5, e5⟩ := hP9.e 5 (by decide)
  obtain ⟨v6, e6⟩ := hP9.e 6 (by decide)
  obtain ⟨v7, e7⟩ := hP9.e 7 (by decide)
  obtain ⟨v8, e8⟩ := hP9.e 8 (by decide)
  obtain ⟨v9, e9⟩ := hP9.e 9 (by decide)
  go_wp2
  change bodyPost Tryz.prog Tryz.f16 (GoodAns gr fr td at' h a p i tx es w) Exit.ret _ _
  refine bodyPost_ret (v := .tuple #[.agg #[.int .i64 gr, .int .i64 fr, .bool td, .int .i64 at', .string (bytes h), .string (bytes a), .string (bytes p), .string (bytes i), .slice la es.length lc, .string (bytes tx)], .int .i64 0])
    (by simp [results, Tryz.results16, go_sem, e0, e1, e2, e3, e4, e5, e6, e7, e8, e9]) rfl ⟨la, lc, rfl, HAG.out _ ?_, ?_⟩
  · exact ((((((((((AG.out).set (b0 := w.heap.size) (o0 := 0) (by omega) _).set (b0 := w.heap.size) (o0 := 1) (by omega) _).set (b0 := w.heap.size) (o0 := 2) (by omega) _).set (b0 := w.heap.size) (o0 := 3) (by omega) _).set (b0 := w.heap.size) (o0 := 4) (by omega) _).set (b0 := w.heap.size) (o0 := 5) (by omega) _).set (b0 := w.heap.size) (o0 := 6) (by omega) _).set (b0 := w.heap.size) (o0 := 7) (by omega) _).set (b0 := w.heap.size) (o0 := 8) (by omega) _).set (b0 := w.heap.size) (o0 := 9) (by omega) _
  · exact ((((((((((BB).setCell (p := ⟨w.heap.size, 0, none⟩) (Nat.le_refl _) _).setCell (p := ⟨w.heap.size, 1, none⟩) (Nat.le_refl _) _).setCell (p := ⟨w.heap.size, 2, none⟩) (Nat.le_refl _) _).setCell (p := ⟨w.heap.size, 3, none⟩) (Nat.le_refl _) _).setCell (p := ⟨w.heap.size, 4, none⟩) (Nat.le_refl _) _).setCell (p := ⟨w.heap.size, 5, none⟩) (Nat.le_refl _) _).setCell (p := ⟨w.heap.size, 6, none⟩) (Nat.le_refl _) _).setCell (p := ⟨w.heap.size, 7, none⟩) (Nat.le_refl _) _).setCell (p := ⟨w.heap.size, 8, none⟩) (Nat.le_refl _) _).setCell (p := ⟨w.heap.size, 9, none⟩) (Nat.le_refl _) _
end Go.Proofs.YtmmghppjhmdikaaGreatDoor
/- What sysl.Parse answers, the calls' answers told of the worlds behind its own. Where all fits its form, and the event isn't right. -/
namespace Go.Proofs.YtmmghppjhmdikaaGreatDoor
open Go.ChangeShapes Go.WideShapes Go.ChangeAt Go.RowKit

set_option maxHeartbeats 4000000 in
set_option maxRecDepth 100000 in
theorem parse_b5 (l r1 r2 r3 r4 r5 r6 r7 r8 r9 dec date h a p i tx : List UInt8) (fr gr at' : Int) (td : Bool) (es : List Elm) (w : World) (hS : Std w) (hm : Max w) (hl : l.length ≤ 16777216)
    (H1 : untilL [60] (l, true) = ([], r1, true)) (H2 : untilL [62] (r1, true) = (dec, r2, true)) (H3 : untilL [32] (r2, true) = ([49], r3, true)) (K1 : toldL (r3, true) = (date, r4, true))
    (K2 : toldL (r4, true) = (h, r5, true)) (K3 : toldL (r5, true) = (a, r6, true)) (K4 : toldL (r6, true) = (p, r7, true)) (K5 : toldL (r7, true) = (i, r8, true))
    (CO : ∀ W, Below w.heap.size w W → Calls Tryz.prog 31 #[.string (bytes dec)] W fun e w' => e = .returned (.tuple #[.int .i64 fr, .int .i64 gr, .bool true]) ∧ Below W.heap.size W w')
    (CM : ∀ W, Below w.heap.size w W → Calls Tryz.prog 32 #[.string (bytes date)] W fun e w' => e = .returned (.tuple #[.bool td, .int .i64 at', .bool true]) ∧ Below W.heap.size W w')
    (CE : ∀ W, Below w.heap.size w W → Calls Tryz.prog 33 #[.string (bytes r8)] W fun e w' => ∃ la lc, e = .returned (.tuple #[.slice la es.length lc, .string (bytes r9), .bool true]) ∧ (∀ V, Agree W.heap.size w' V → ElmsAt V (.slice la es.length lc) es) ∧ Below W.heap.size W w')
    (CB : ∀ W, Below w.heap.size w W → Calls Tryz.prog 34 #[.string (bytes r9)] W fun e w' => e = .returned (.tuple #[.string (bytes tx), .bool true]) ∧ Below W.heap.size W w')
    (hfit : ElmsFit es) (htx : tx.length ≤ 16777216) (R : Int) (hR : rightE ⟨gr, fr, td, at', bytes h, bytes a, bytes p, bytes i, es, bytes tx⟩ = R) (hR0 : R ≠ 0) :
    Calls Tryz.prog 16 #[.string (bytes l)] w (BadAns w) := by
  have l1 : r1.length ≤ 16777216 := by have := until_len [60] (l, true); rw [H1] at this; exact Nat.le_trans this hl
  have l2 : r2.length ≤ 16777216 := by have := until_len [62] (r1, true); rw [H2] at this; exact Nat.le_trans this l1
  have l3 : r3.length ≤ 16777216 := by have := until_len [32] (r2, true); rw [H3] at this; exact Nat.le_trans this l2
  have l4 : r4.length ≤ 16777216 := by have := told_len (r3, true); rw [K1] at this; exact Nat.le_trans this l3
  have l5 : r5.length ≤ 16777216 := by have := told_len (r4, true); rw [K2] at this; exact Nat.le_trans this l4
  have l6 : r6.length ≤ 16777216 := by have := told_len (r5, true); rw [K3] at this; exact Nat.le_trans this l5
  have l7 : r7.length ≤ 16777216 := by have := told_len (r6, true); rw [K4] at this; exact Nat.le_trans this l6
  have J1 := Lib.hid H1
  have J2 := Lib.hid H2
  have J3 := Lib.hid H3
  have J4 := Lib.hid K1
  have J5 := Lib.hid K2
  have J6 := Lib.hid K3
  have J7 := Lib.hid K4
  have J8 := Lib.hid K5
  have CO' := Lib.hid CO
  have CM' := Lib.hid CM
  have CE' := Lib.hid CE
  have CB' := Lib.hid CB
  have HRR := Lib.hid hR
  have HF := Lib.hid hfit
  clear H1 H2 H3 K1 K2 K3 K4 K5 CO CM CE CB hR hfit
  have hsd : ∀ (X : World) (n : Nat) (p : Addr) (v : Value), (X.drewN n).setCell p v = (X.setCell p v).drewN n := fun _ _ _ _ => rfl
  have q1 : (bytes []).toList.isEmpty = true := by rw [Lib.toList_data]; rfl
  have q2 : ((bytes [49]).toList == [49]) = true := by rw [Lib.toList_data]; rfl
  have hne : (R != 0) = true := by rw [bne, beq_eq_false_iff_ne.2 hR0]; rfl
  clear hR0
  go_enter Tryz.func16, Tryz.ntmps16
  go_wp2_with fail
  refine wp_scope_jumps 0 (GivesUp w) (fun _ _ => 0) rfl ?first ?pass
  case pass =>
    rintro a w1 ⟨ha, BB, hz, hfz, hex⟩
    obtain ⟨v0, e0⟩ := hex 0 (by decide)
    obtain ⟨v1, e1⟩ := hex 1 (by decide)
    obtain ⟨v2, e2⟩ := hex 2 (by decide)
    obtain ⟨v3, e3⟩ := hex 3 (by decide)
    obtain ⟨v4, e4⟩ := hex 4 (by decide)
    obtain ⟨v5, e5⟩ := hex 5 (by decide)
    obtain ⟨v6, e6⟩ := hex 6 (by decide)
    obtain ⟨v7, e7⟩ := hex 7 (by decide)
    obtain ⟨v8, e8⟩ := hex 8 (by decide)
    obtain ⟨v9, e9⟩ := hex 9 (by decide)
    clear hex J1 J2 J3 J4 J5 J6 J7 J8 CO' CM' CE' CB' HRR HF hS hm
    have HBB := Lib.hid BB
    clear BB
    cases ha
    go_wp2
    change bodyPost Tryz.prog Tryz.f16 (BadAns w) Exit.ret _ _
    refine bodyPost_ret (v := .tuple #[.agg #[.int .i64 0, .int .i64 0, .bool false, .int .i64 0, .string ⟨#[]⟩, .string ⟨#[]⟩, .string ⟨#[]⟩, .string ⟨#[]⟩, .slice none 0 0, .string ⟨#[]⟩], .int .i64 3])
      (by simp [results, Tryz.results16, go_sem, e0, e1, e2, e3, e4, e5, e6, e7, e8, e9]) rfl ⟨rfl, ?_⟩
    exact (((((((((((HBB.out).setCell (p := ⟨w.heap.size, 0, none⟩) (Nat.le_refl _) _).setCell (p := ⟨w.heap.size, 1, none⟩) (Nat.le_refl _) _).setCell (p := ⟨w.heap.size, 2, none⟩) (Nat.le_refl _) _).setCell (p := ⟨w.heap.size, 3, none⟩) (Nat.le_refl _) _).setCell (p := ⟨w.heap.size, 4, none⟩) (Nat.le_refl _) _).setCell (p := ⟨w.heap.size, 5, none⟩) (Nat.le_refl _) _).setCell (p := ⟨w.heap.size, 6, none⟩) (Nat.le_refl _) _).setCell (p := ⟨w.heap.size, 7, none⟩) (Nat.le_refl _) _).setCell (p := ⟨w.heap.size, 8, none⟩) (Nat.le_refl _) _).setCell (p := ⟨w.heap.size, 9, none⟩) (Nat.le_refl _) _)
  go_wp2_with fail
  have w0 : ∃ c, (PW w E0 E0 l true).drew = (PW w E0 E0 l true).drewN c := ⟨1, rfl⟩
  go_region_held3 (fun w' => w'.cell? ⟨w.heap.size + 1 + 1 + 1 + 1, 0, none⟩ = some (.func (.func 28) #[] #[.pointer (some ⟨w.heap.size + 1 + 1, 0, none⟩), .pointer (some ⟨w.heap.size + 1 + 1 + 1, 0, none⟩)]))
    (first
      | assumption
      | exact pw_fun (by assumption)
      | exact pw_fun w0)
    (first
      | (go_at_call 28; (with_reducible refine (until_h (sep := ⟨#[60]⟩) w0 J1.out rfl hm hl).mono ?_); rintro e w' ⟨rfl, hx⟩)
      | (go_at_call 28; (with_reducible refine (until_h (sep := ⟨#[62]⟩) (by assumption) J2.out rfl hm l1).mono ?_); rintro e w' ⟨rfl, hx⟩)
      | (go_at_call 28; (with_reducible refine (until_h (sep := ⟨#[32]⟩) (by assumption) J3.out rfl hm l2).mono ?_); rintro e w' ⟨rfl, hx⟩))
  rename World => w3
  obtain ⟨c, hc⟩ : ∃ c, w3 = (PW w E0 E0 r3 true).drewN c := by assumption
  subst hc
  rename_i hHeld
  clear hHeld w0
  go_wp2_with fail
  refine (told_t J4.out hm l3).mono ?_
  rintro e w' ⟨rfl, c', rfl⟩
  go_wp2_with fail
  refine (told_t J5.out hm l4).mono ?_
  rintro e w' ⟨rfl, c', rfl⟩
  go_wp2_with fail
  refine (told_t J6.out hm l5).mono ?_
  rintro e w' ⟨rfl, c', rfl⟩
  go_wp2_with fail
  refine (told_t J7.out hm l6).mono ?_
  rintro e w' ⟨rfl, c', rfl⟩
  go_wp2_with fail
  refine (told_t J8.out hm l7).mono ?_
  rintro e w' ⟨rfl, c', rfl⟩
  go_wp2_with fail
  obtain ⟨W0, hW0⟩ : ∃ W0, ((((((w.alloc E0).alloc (.cells #[.int .i64 0, .int .i64 0, .bool false, .int .i64 0, .string (bytes h), .string (bytes a), .string (bytes p), .string (bytes i), .slice none 0 0, .string ⟨#[]⟩] 29)).alloc (.cells #[.string (bytes r8)] 9)).alloc (.cells #[.bool true] 4)).alloc (.cells #[.func (.func 28) #[] #[.pointer (some ⟨w.heap.size + 2, 0, none⟩), .pointer (some ⟨w.heap.size + 3, 0, none⟩)]] 80)).drewN c') = W0 := ⟨_, rfl⟩
  have hP0 : PAt w W0 (.int .i64 0) (.int .i64 0) (.bool false) (.int .i64 0) (.string (bytes h)) (.string (bytes a)) (.string (bytes p)) (.string (bytes i)) (.slice none 0 0) (.string ⟨#[]⟩) r8 := by
    rw [← hW0]
    constructor
    · simp [go_sem]
    · simp [go_sem]
    · simp [go_sem]
    · simp [go_sem]
    · simp [go_sem]
    · simp [go_sem]
    · simp [go_sem]
    · simp [go_sem]
    · simp [go_sem]
    · simp [go_sem]
    · simp [go_sem]
    · simp [go_sem]
    · simp <;> omega
    · intro o; simp [go_sem]
    · intro o; simp [go_sem]
    · intro o; simp [go_sem]
    · intro o; simp [go_sem]
    · exact (((((((Below.refl _ _).alloc (Nat.le_refl _) _).alloc (by simp) _).alloc (by simp <;> omega) _).alloc (by simp <;> omega) _).alloc (by simp <;> omega) _)).trans ((drewN_below _ _).mono (by simp <;> omega))
    · intro k hk
      match k, hk with
      | 0, _ => exact ⟨.int .i64 0, by simp [go_sem]⟩
      | 1, _ => exact ⟨.int .i64 0, by simp [go_sem]⟩
      | 2, _ => exact ⟨.bool false, by simp [go_sem]⟩
      | 3, _ => exact ⟨.int .i64 0, by simp [go_sem]⟩
      | 4, _ => exact ⟨.string ⟨#[]⟩, by simp [go_sem]⟩
      | 5, _ => exact ⟨.string ⟨#[]⟩, by simp [go_sem]⟩
      | 6, _ => exact ⟨.string ⟨#[]⟩, by simp [go_sem]⟩
      | 7, _ => exact ⟨.string ⟨#[]⟩, by simp [go_sem]⟩
      | 8, _ => exact ⟨.slice none 0 0, by simp [go_sem]⟩
      | 9, _ => exact ⟨.string ⟨#[]⟩, by simp [go_sem]⟩
  rw [hW0]
  clear hW0
  refine (CO'.out _ hP0.b).mono ?_
  rintro e W1 ⟨rfl, hb1⟩
  have hP1 := hP0.below hb1
  clear hb1 hP0
  have k0 := hP1.k0
  have k1 := hP1.k1
  have k2 := hP1.k2
  have k3 := hP1.k3
  have k4 := hP1.k4
  have k5 := hP1.k5
  have k6 := hP1.k6
  have k7 := hP1.k7
  have k8 := hP1.k8
  have k9 := hP1.k9
  have kr : W1.cell? ⟨w.heap.size + 1 + 1, 0, none⟩ = some (.string (bytes r8)) := hP1.kr
  have kf : W1.cell? ⟨w.heap.size + 1 + 1 + 1, 0, none⟩ = some (.bool true) := hP1.kf
  have f0 := hP1.f0
  have f1 := hP1.f1
  have f2 : ∀ o, W1.frozen? ⟨w.heap.size + 1 + 1, o, none⟩ = false := hP1.f2
  have f3 : ∀ o, W1.frozen? ⟨w.heap.size + 1 + 1 + 1, o, none⟩ = false := hP1.f3
  go_wp2_with fail
  have hP2 := ((hP1.set1 (.int .i64 fr)).set0 (.int .i64 gr)).setf
  clear k0 k1 k2 k3 k4 k5 k6 k7 k8 k9 kr kf f0 f1 f2 f3
  refine (CM'.out _ hP2.b).mono ?_
  rintro e W2 ⟨rfl, hb2⟩
  have hP3 := hP2.below hb2
  clear hb2 hP2 hP1
  have k0 := hP3.k0
  have k1 := hP3.k1
  have k2 := hP3.k2
  have k3 := hP3.k3
  have k4 := hP3.k4
  have k5 := hP3.k5
  have k6 := hP3.k6
  have k7 := hP3.k7
  have k8 := hP3.k8
  have k9 := hP3.k9
  have kr : W2.cell? ⟨w.heap.size + 1 + 1, 0, none⟩ = some (.string (bytes r8)) := hP3.kr
  have kf : W2.cell? ⟨w.heap.size + 1 + 1 + 1, 0, none⟩ = some (.bool true) := hP3.kf
  have f0 := hP3.f0
  have f1 := hP3.f1
  have f2 : ∀ o, W2.frozen? ⟨w.heap.size + 1 + 1, o, none⟩ = false := hP3.f2
  have f3 : ∀ o, W2.frozen? ⟨w.heap.size + 1 + 1 + 1, o, none⟩ = false := hP3.f3
  go_wp2_with fail
  have hP4 := ((hP3.set2 (.bool td)).set3 (.int .i64 at')).setf
  clear k0 k1 k2 k3 k4 k5 k6 k7 k8 k9 kr kf f0 f1 f2 f3
  have hlo := hP4.z
  refine (CE'.out _ hP4.b).mono ?_
  rintro e W3 ⟨la, lc, rfl, hag, hb3⟩
  have hP5 := hP4.below hb3
  clear hb3 hP4 hP3
  have HAG := Lib.hid hag
  clear hag
  have k0 := hP5.k0
  have k1 := hP5.k1
  have k2 := hP5.k2
  have k3 := hP5.k3
  have k4 := hP5.k4
  have k5 := hP5.k5
  have k6 := hP5.k6
  have k7 := hP5.k7
  have k8 := hP5.k8
  have k9 := hP5.k9
  have kr : W3.cell? ⟨w.heap.size + 1 + 1, 0, none⟩ = some (.string (bytes r8)) := hP5.kr
  have kf : W3.cell? ⟨w.heap.size + 1 + 1 + 1, 0, none⟩ = some (.bool true) := hP5.kf
  have f0 := hP5.f0
  have f1 := hP5.f1
  have f2 : ∀ o, W3.frozen? ⟨w.heap.size + 1 + 1, o, none⟩ = false := hP5.f2
  have f3 : ∀ o, W3.frozen? ⟨w.heap.size + 1 + 1 + 1, o, none⟩ = false := hP5.f3
  go_wp2_with fail
  have hP6 := ((hP5.set8 (.slice la es.length lc)).setr r9).setf
  clear k0 k1 k2 k3 k4 k5 k6 k7 k8 k9 kr kf f0 f1 f2 f3
  obtain ⟨LO, hLO⟩ : ∃ LO, (((W2.setCell ⟨w.heap.size + 1, 2, none⟩ (.bool td)).setCell ⟨w.heap.size + 1, 3, none⟩ (.int .i64 at')).setCell ⟨w.heap.size + 1 + 1 + 1, 0, none⟩ (.bool true)).heap.size = LO := ⟨_, rfl⟩
  rw [hLO] at HAG hlo
  clear hLO
  have ag1 := (((Agree.refl LO W3).set (b0 := w.heap.size + 1) (o0 := 8) (by omega) (.slice la es.length lc)).set (b0 := w.heap.size + 1 + 1) (o0 := 0) (by omega) (.string (bytes r9))).set (b0 := w.heap.size + 1 + 1 + 1) (o0 := 0) (by omega) (.bool true)
  refine (CB'.out _ hP6.b).mono ?_
  rintro e W4 ⟨rfl, hb4⟩
  have hP7 := hP6.below hb4
  have ag2 := ag1.below hb4
  clear hP6 hP5 ag1
  have k0 := hP7.k0
  have k1 := hP7.k1
  have k2 := hP7.k2
  have k3 := hP7.k3
  have k4 := hP7.k4
  have k5 := hP7.k5
  have k6 := hP7.k6
  have k7 := hP7.k7
  have k8 := hP7.k8
  have k9 := hP7.k9
  have kr : W4.cell? ⟨w.heap.size + 1 + 1, 0, none⟩ = some (.string (bytes r9)) := hP7.kr
  have kf : W4.cell? ⟨w.heap.size + 1 + 1 + 1, 0, none⟩ = some (.bool true) := hP7.kf
  have f0 := hP7.f0
  have f1 := hP7.f1
  have f2 : ∀ o, W4.frozen? ⟨w.heap.size + 1 + 1, o, none⟩ = false := hP7.f2
  have f3 : ∀ o, W4.frozen? ⟨w.heap.size + 1 + 1 + 1, o, none⟩ = false := hP7.f3
  go_wp2_with fail
  have hP8 := (hP7.set9 (.string (bytes tx))).setf
  clear k0 k1 k2 k3 k4 k5 k6 k7 k8 k9 kr kf f0 f1 f2 f3
  have ag3 := (ag2.set (b0 := w.heap.size + 1) (o0 := 9) (by omega) (.string (bytes tx))).set (b0 := w.heap.size + 1 + 1 + 1) (o0 := 0) (by omega) (.bool true)
  have hEl := HAG.out _ ag3
  have s1 : h.length ≤ 16777216 := Nat.le_trans (toldp_len J5.out) l4
  have s2 : a.length ≤ 16777216 := Nat.le_trans (toldp_len J6.out) l5
  have s3 : p.length ≤ 16777216 := Nat.le_trans (toldp_len J7.out) l6
  have s4 : i.length ≤ 16777216 := Nat.le_trans (toldp_len J8.out) l7
  have hRt := right_any ⟨gr, fr, td, at', bytes h, bytes a, bytes p, bytes i, es, bytes tx⟩ (.slice la es.length lc) _ (hS.below hP8.b) ⟨hEl, HF.out, by rw [bytes_size]; exact Nat.le_trans s1 (by decide), by rw [bytes_size]; exact Nat.le_trans s2 (by decide), by rw [bytes_size]; exact Nat.le_trans s3 (by decide), by rw [bytes_size]; exact Nat.le_trans s4 (by decide), by rw [bytes_size]; exact Nat.le_trans htx (by decide)⟩
  rw [HRR.out] at hRt
  clear s1 s2 s3 s4 hEl
  refine hRt.mono ?_
  rintro e W5 ⟨rfl, hb5⟩
  have hP9 := hP8.below hb5
  have AG := Lib.hid (ag3.below hb5)
  clear hRt hb5 hP8 hP7 ag3 ag2
  have k0 := hP9.k0
  have k1 := hP9.k1
  have k2 := hP9.k2
  have k3 := hP9.k3
  have k4 := hP9.k4
  have k5 := hP9.k5
  have k6 := hP9.k6
  have k7 := hP9.k7
  have k8 := hP9.k8
  have k9 := hP9.k9
  have kr : W5.cell? ⟨w.heap.size + 1 + 1, 0, none⟩ = some (.string (bytes r9)) := hP9.kr
  have kf : W5.cell? ⟨w.heap.size + 1 + 1 + 1, 0, none⟩ = some (.bool true) := hP9.kf
  have f0 := hP9.f0
  have f1 := hP9.f1
  have f2 : ∀ o, W5.frozen? ⟨w.heap.size + 1 + 1, o, none⟩ = false := hP9.f2
  have f3 : ∀ o, W5.frozen? ⟨w.heap.size + 1 + 1 + 1, o, none⟩ = false := hP9.f3
  have BB := hP9.b
  have HE := Lib.hid hP9.e
  have HZ := Lib.hid hP9.z
  have HF0 := Lib.hid hP9.f0
  go_wp2
  go_step3
  change 0 = 0 ∧ GivesUp w _ _
  exact ⟨rfl, by constructor, BB, by have := HZ.out; omega, HF0.out, HE.out⟩
end Go.Proofs.YtmmghppjhmdikaaGreatDoor
