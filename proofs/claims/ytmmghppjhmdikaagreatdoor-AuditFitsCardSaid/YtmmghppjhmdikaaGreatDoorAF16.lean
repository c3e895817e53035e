/- The texts ParseUp, ParseUp0, ParseUp2, one behind the other. -/
import Derived.Test.YtmmghppjhmdikaaGreatDoorAF15
import Derived.Test.YtmmghppjhmdikaaGreatDoorAF14
/- What sysl.Parse answers, the calls' answers told of the worlds behind its own. Where it isn't a text: one of its parts is none. -/
namespace Go.Proofs.YtmmghppjhmdikaaGreatDoor
open Go.ChangeShapes Go.WideShapes Go.ChangeAt Go.RowKit

/-- The answer's place stands, whatever is written beside it. -/
structure WUp (w W : World) : Prop where
  b : Below w.heap.size w W
  z : w.heap.size < W.heap.size
  f : ∀ o, W.frozen? ⟨w.heap.size, o, none⟩ = false
  e : ∀ i : Nat, i < 10 → ∃ v, W.cell? ⟨w.heap.size, i, none⟩ = some v
theorem PAt.up {w W : World} {c0 c1 c2 c3 c4 c5 c6 c7 c8 c9 : Value} {r : List UInt8} (h : PAt w W c0 c1 c2 c3 c4 c5 c6 c7 c8 c9 r) : WUp w W := ⟨h.b, by have := h.z; omega, h.f0, h.e⟩
theorem WUp.set {w W : World} (h : WUp w W) {b o : Nat} (hb : w.heap.size < b) (v : Value) : WUp w (W.setCell ⟨b, o, none⟩ v) where
  b := h.b.setCell (p := ⟨b, o, none⟩) (Nat.le_of_lt hb) _
  z := by have := h.z; simpa using this
  f := fun o' => by rw [World.frozen?_of_block (Below.heap_setCell W _ v _ (by simp; omega))]; exact h.f o'
  e := fun i hi => by
    obtain ⟨u, hu⟩ := h.e i hi
    exact ⟨u, by rw [World.cell?_of_block (Below.heap_setCell W _ v _ (by simp; omega))]; exact hu⟩
theorem WUp.up {w W : World} (h : WUp w W) {a : Act} (ha : Frame90 w.heap.size a) : GivesUp w a W := ⟨ha, h.b, h.z, h.f, h.e⟩
set_option maxHeartbeats 4000000 in
set_option maxRecDepth 100000 in
theorem parse_b1 (l r1 r2 r3 r4 r5 r6 r7 r8 dec date h a p i : List UInt8) (w : World) (_ : Std w) (hm : Max w) (hl : l.length ≤ 16777216)
    (H1 : untilL [60] (l, true) = ([], r1, true)) (H2 : untilL [62] (r1, true) = (dec, r2, true)) (H3 : untilL [32] (r2, true) = ([49], r3, true)) (K1 : toldL (r3, true) = (date, r4, true))
    (K2 : toldL (r4, true) = (h, r5, true)) (K3 : toldL (r5, true) = (a, r6, true)) (K4 : toldL (r6, true) = (p, r7, true)) (K5 : toldL (r7, true) = (i, r8, true))
    (CO : ∀ W, Below w.heap.size w W → Calls Tryz.prog 31 #[.string (bytes dec)] W fun e w' => e = .returned (.tuple #[.int .i64 0, .int .i64 0, .bool false]) ∧ Below W.heap.size W w') :
    Calls Tryz.prog 16 #[.string (bytes l)] w (BadAns w) := by
  have l1 : r1.length ≤ 16777216 := by have := until_len [60] (l, true); rw [H1] at this; exact Nat.le_trans this hl
  have l2 : r2.length ≤ 16777216 := by have := until_len [62] (r1, true); rw [H2] at this; exact Nat.le_trans this l1
  have l3 : r3.length ≤ 16777216 := by have := until_len [32] (r2, true); rw [H3] at this; exact Nat.le_trans this l2
  have l4 : r4.length ≤ 16777216 := by have := told_len (r3, true); rw [K1] at this; exact Nat.le_trans this l3
  have l5 : r5.length ≤ 16777216 := by have := told_len (r4, true); rw [K2] at this; exact Nat.le_trans this l4
  have l6 : r6.length ≤ 16777216 := by have := told_len (r5, true); rw [K3] at this; exact Nat.le_trans this l5
  have l7 : r7.length ≤ 16777216 := by have := told_len (r6, true); rw [K4] at this; exact Nat.le_trans this l6
  have J1 := Lib.hid H1
  have J2 := Lib.hid H2
  have J3 := Lib.hid H3
  have J4 := Lib.hid K1
  have J5 := Lib.hid K2
  have J6 := Lib.hid K3
  have J7 := Lib.hid K4
  have J8 := Lib.hid K5
  have CO' := Lib.hid CO
  clear H1 H2 H3 K1 K2 K3 K4 K5 CO
  have hsd : ∀ (X : World) (n : Nat) (p : Addr) (v : Value), (X.drewN n).setCell p v = (X.setCell p v).drewN n := fun _ _ _ _ => rfl
  have q1 : (bytes []).toList.isEmpty = true := by rw [Lib.toList_data]; rfl
  have q2 : ((bytes [49]).toList == [49]) = true := by rw [Lib.toList_data]; rfl
  go_enter Tryz.func16, Tryz.ntmps16
  go_wp2_with fail
  refine wp_scope_jumps 0 (GivesUp w) (fun _ _ => 0) rfl ?first ?pass
  case pass =>
    rintro a w1 ⟨ha, BB, hz, hfz, hex⟩
    obtain ⟨v0, e0⟩ := hex 0 (by decide)
    obtain ⟨v1, e1⟩ := hex 1 (by decide)
    obtain ⟨v2, e2⟩ := hex 2 (by decide)
    obtain ⟨v3, e3⟩ := hex 3 (by decide)
    obtain ⟨v4, e4⟩ := hex 4 (by decide)
    obtain ⟨v5, e5⟩ := hex 5 (by decide)
    obtain ⟨v6, e6⟩ := hex 6 (by decide)
    obtain ⟨v7, e7⟩ := hex 7 (by decide)
    obtain ⟨v8, e8⟩ := hex 8 (by decide)
    obtain ⟨v9, e9⟩ := hex 9 (by decide)
    clear hex J1 J2 J3 J4 J5 J6 J7 J8 CO' hm
    have HBB := Lib.hid BB
    clear BB
    cases ha
    go_wp2
    change bodyPost Tryz.prog Tryz.f16 (BadAns w) Exit.ret _ _
    refine bodyPost_ret (v := .tuple #[.agg #[.int .i64 0, .int .i64 0, .bool false, .int .i64 0, .string ⟨#[]⟩, .string ⟨#[]⟩, .string ⟨#[]⟩, .string ⟨#[]⟩, .slice none 0 0, .string ⟨#[]⟩], .int .i64 3])
      (by simp [results, Tryz.results16, go_sem, e0, e1, e2, e3, e4, e5, e6, e7, e8, e9]) rfl ⟨rfl, ?_⟩
    exact (((((((((((HBB.out).setCell (p := ⟨w.heap.size, 0, none⟩) (Nat.le_refl _) _).setCell (p := ⟨w.heap.size, 1, none⟩) (Nat.le_refl _) _).setCell (p := ⟨w.heap.size, 2, none⟩) (Nat.le_refl _) _).setCell (p := ⟨w.heap.size, 3, none⟩) (Nat.le_refl _) _).setCell (p := ⟨w.heap.size, 4, none⟩) (Nat.le_refl _) _).setCell (p := ⟨w.heap.size, 5, none⟩) (Nat.le_refl _) _).setCell (p := ⟨w.heap.size, 6, none⟩) (Nat.le_refl _) _).setCell (p := ⟨w.heap.size, 7, none⟩) (Nat.le_refl _) _).setCell (p := ⟨w.heap.size, 8, none⟩) (Nat.le_refl _) _).setCell (p := ⟨w.heap.size, 9, none⟩) (Nat.le_refl _) _)
  go_wp2_with fail
  have w0 : ∃ c, (PW w E0 E0 l true).drew = (PW w E0 E0 l true).drewN c := ⟨1, rfl⟩
  go_region_held3 (fun w' => w'.cell? ⟨w.heap.size + 1 + 1 + 1 + 1, 0, none⟩ = some (.func (.func 28) #[] #[.pointer (some ⟨w.heap.size + 1 + 1, 0, none⟩), .pointer (some ⟨w.heap.size + 1 + 1 + 1, 0, none⟩)]))
    (first
      | assumption
      | exact pw_fun (by assumption)
      | exact pw_fun w0)
    (first
      | (go_at_call 28; (with_reducible refine (until_h (sep := ⟨#[60]⟩) w0 J1.out rfl hm hl).mono ?_); rintro e w' ⟨rfl, hx⟩)
      | (go_at_call 28; (with_reducible refine (until_h (sep := ⟨#[62]⟩) (by assumption) J2.out rfl hm l1).mono ?_); rintro e w' ⟨rfl, hx⟩)
      | (go_at_call 28; (with_reducible refine (until_h (sep := ⟨#[32]⟩) (by assumption) J3.out rfl hm l2).mono ?_); rintro e w' ⟨rfl, hx⟩))
  rename World => w3
  obtain ⟨c, hc⟩ : ∃ c, w3 = (PW w E0 E0 r3 true).drewN c := by assumption
  subst hc
  rename_i hHeld
  clear hHeld w0
  go_wp2_with fail
  refine (told_t J4.out hm l3).mono ?_
  rintro e w' ⟨rfl, c', rfl⟩
  go_wp2_with fail
  refine (told_t J5.out hm l4).mono ?_
  rintro e w' ⟨rfl, c', rfl⟩
  go_wp2_with fail
  refine (told_t J6.out hm l5).mono ?_
  rintro e w' ⟨rfl, c', rfl⟩
  go_wp2_with fail
  refine (told_t J7.out hm l6).mono ?_
  rintro e w' ⟨rfl, c', rfl⟩
  go_wp2_with fail
  refine (told_t J8.out hm l7).mono ?_
  rintro e w' ⟨rfl, c', rfl⟩
  go_wp2_with fail
  obtain ⟨W0, hW0⟩ : ∃ W0, ((((((w.alloc E0).alloc (.cells #[.int .i64 0, .int .i64 0, .bool false, .int .i64 0, .string (bytes h), .string (bytes a), .string (bytes p), .string (bytes i), .slice none 0 0, .string ⟨#[]⟩] 29)).alloc (.cells #[.string (bytes r8)] 9)).alloc (.cells #[.bool true] 4)).alloc (.cells #[.func (.func 28) #[] #[.pointer (some ⟨w.heap.size + 2, 0, none⟩), .pointer (some ⟨w.heap.size + 3, 0, none⟩)]] 80)).drewN c') = W0 := ⟨_, rfl⟩
  have hP0 : PAt w W0 (.int .i64 0) (.int .i64 0) (.bool false) (.int .i64 0) (.string (bytes h)) (.string (bytes a)) (.string (bytes p)) (.string (bytes i)) (.slice none 0 0) (.string ⟨#[]⟩) r8 := by
    rw [← hW0]
    constructor
    · simp [go_sem]
    · simp [go_sem]
    · simp [go_sem]
    · simp [go_sem]
    · simp [go_sem]
    · simp [go_sem]
    · simp [go_sem]
    · simp [go_sem]
    · simp [go_sem]
    · simp [go_sem]
    · simp [go_sem]
    · simp [go_sem]
    · simp <;> omega
    · intro o; simp [go_sem]
    · intro o; simp [go_sem]
    · intro o; simp [go_sem]
    · intro o; simp [go_sem]
    · exact (((((((Below.refl _ _).alloc (Nat.le_refl _) _).alloc (by simp) _).alloc (by simp <;> omega) _).alloc (by simp <;> omega) _).alloc (by simp <;> omega) _)).trans ((drewN_below _ _).mono (by simp <;> omega))
    · intro k hk
      match k, hk with
      | 0, _ => exact ⟨.int .i64 0, by simp [go_sem]⟩
      | 1, _ => exact ⟨.int .i64 0, by simp [go_sem]⟩
      | 2, _ => exact ⟨.bool false, by simp [go_sem]⟩
      | 3, _ => exact ⟨.int .i64 0, by simp [go_sem]⟩
      | 4, _ => exact ⟨.string ⟨#[]⟩, by simp [go_sem]⟩
      | 5, _ => exact ⟨.string ⟨#[]⟩, by simp [go_sem]⟩
      | 6, _ => exact ⟨.string ⟨#[]⟩, by simp [go_sem]⟩
      | 7, _ => exact ⟨.string ⟨#[]⟩, by simp [go_sem]⟩
      | 8, _ => exact ⟨.slice none 0 0, by simp [go_sem]⟩
      | 9, _ => exact ⟨.string ⟨#[]⟩, by simp [go_sem]⟩
  rw [hW0]
  clear hW0
  refine (CO'.out _ hP0.b).mono ?_
  rintro e W1 ⟨rfl, hb1⟩
  have hP1 := hP0.below hb1
  clear hb1 hP0
  have k0 := hP1.k0
  have k1 := hP1.k1
  have k2 := hP1.k2
  have k3 := hP1.k3
  have k4 := hP1.k4
  have k5 := hP1.k5
  have k6 := hP1.k6
  have k7 := hP1.k7
  have k8 := hP1.k8
  have k9 := hP1.k9
  have kr : W1.cell? ⟨w.heap.size + 1 + 1, 0, none⟩ = some (.string (bytes r8)) := hP1.kr
  have kf : W1.cell? ⟨w.heap.size + 1 + 1 + 1, 0, none⟩ = some (.bool true) := hP1.kf
  have f0 := hP1.f0
  have f1 := hP1.f1
  have f2 : ∀ o, W1.frozen? ⟨w.heap.size + 1 + 1, o, none⟩ = false := hP1.f2
  have f3 : ∀ o, W1.frozen? ⟨w.heap.size + 1 + 1 + 1, o, none⟩ = false := hP1.f3
  have U := hP1.up
  have HU := Lib.hid U
  have hz := hP1.z
  clear U
  go_wp2
  go_step3
  change 0 = 0 ∧ GivesUp w _ _
  exact ⟨rfl, (((HU.out.set (by omega) _).set (by omega) _).set (by omega) _).up (by constructor)⟩
set_option maxHeartbeats 4000000 in
set_option maxRecDepth 100000 in
theorem parse_b2 (l r1 r2 r3 r4 r5 r6 r7 r8 dec date h a p i : List UInt8) (fr gr : Int) (w : World) (_ : Std w) (hm : Max w) (hl : l.length ≤ 16777216)
    (H1 : untilL [60] (l, true) = ([], r1, true)) (H2 : untilL [62] (r1, true) = (dec, r2, true)) (H3 : untilL [32] (r2, true) = ([49], r3, true)) (K1 : toldL (r3, true) = (date, r4, true))
    (K2 : toldL (r4, true) = (h, r5, true)) (K3 : toldL (r5, true) = (a, r6, true)) (K4 : toldL (r6, true) = (p, r7, true)) (K5 : toldL (r7, true) = (i, r8, true))
    (CO : ∀ W, Below w.heap.size w W → Calls Tryz.prog 31 #[.string (bytes dec)] W fun e w' => e = .returned (.tuple #[.int .i64 fr, .int .i64 gr, .bool true]) ∧ Below W.heap.size W w')
    (CM : ∀ W, Below w.heap.size w W → Calls Tryz.prog 32 #[.string (bytes date)] W fun e w' => e = .returned (.tuple #[.bool false, .int .i64 0, .bool false]) ∧ Below W.heap.size W w') :
    Calls Tryz.prog 16 #[.string (bytes l)] w (BadAns w) := by
  have l1 : r1.length ≤ 16777216 := by have := until_len [60] (l, true); rw [H1] at this; exact Nat.le_trans this hl
  have l2 : r2.length ≤ 16777216 := by have := until_len [62] (r1, true); rw [H2] at this; exact Nat.le_trans this l1
  have l3 : r3.length ≤ 16777216 := by have := until_len [32] (r2, true); rw [H3] at this; exact Nat.le_trans this l2
  have l4 : r4.length ≤ 16777216 := by have := told_len (r3, true); rw [K1] at this; exact Nat.le_trans this l3
  have l5 : r5.length ≤ 16777216 := by have := told_len (r4, true); rw [K2] at this; exact Nat.le_trans this l4
  have l6 : r6.length ≤ 16777216 := by have := told_len (r5, true); rw [K3] at this; exact Nat.le_trans this l5
  have l7 : r7.length ≤ 16777216 := by have := told_len (r6, true); rw [K4] at this; exact Nat.le_trans this l6
  have J1 := Lib.hid H1
  have J2 := Lib.hid H2
  have J3 := Lib.hid H3
  have J4 := Lib.hid K1
  have J5 := Lib.hid K2
  have J6 := Lib.hid K3
  have J7 := Lib.hid K4
  have J8 := Lib.hid K5
  have CO' := Lib.hid CO
  have CM' := Lib.hid CM
  clear H1 H2 H3 K1 K2 K3 K4 K5 CO CM
  have hsd : ∀ (X : World) (n : Nat) (p : Addr) (v : Value), (X.drewN n).setCell p v = (X.setCell p v).drewN n := fun _ _ _ _ => rfl
  have q1 : (bytes []).toList.isEmpty = true := by rw [Lib.toList_data]; rfl
  have q2 : ((bytes [49]).toList == [49]) = true := by rw [Lib.toList_data]; rfl
  go_enter Tryz.func16, Tryz.ntmps16
  go_wp2_with fail
  refine wp_scope_jumps 0 (GivesUp w) (fun _ _ => 0) rfl ?first ?pass
  case pass =>
    rintro a w1 ⟨ha, BB, hz, hfz, hex⟩
    obtain ⟨v0, e0⟩ := hex 0 (by decide)
    obtain ⟨v1, e1⟩ := hex 1 (by decide)
    obtain ⟨v2, e2⟩ := hex 2 (by decide)
    obtain ⟨v3, e3⟩ := hex 3 (by decide)
    obtain ⟨v4, e4⟩ := hex 4 (by decide)
    obtain ⟨v5, e5⟩ := hex 5 (by decide)
    obtain ⟨v6, e6⟩ := hex 6 (by decide)
    obtain ⟨v7, e7⟩ := hex 7 (by decide)
    obtain ⟨v8, e8⟩ := hex 8 (by decide)
    obtain ⟨v9, e9⟩ := hex 9 (by decide)
    clear hex J1 J2 J3 J4 J5 J6 J7 J8 CO' CM' hm
    have HBB := Lib.hid BB
    clear BB
    cases ha
    go_wp2
    change bodyPost Tryz.prog Tryz.f16 (BadAns w) Exit.ret _ _
    refine bodyPost_ret (v := .tuple #[.agg #[.int .i64 0, .int .i64 0, .bool false, .int .i64 0, .string ⟨#[]⟩, .string ⟨#[]⟩, .string ⟨#[]⟩, .string ⟨#[]⟩, .slice none 0 0, .string ⟨#[]⟩], .int .i64 3])
      (by simp [results, Tryz.results16, go_sem, e0, e1, e2, e3, e4, e5, e6, e7, e8, e9]) rfl ⟨rfl, ?_⟩
    exact (((((((((((HBB.out).setCell (p := ⟨w.heap.size, 0, none⟩) (Nat.le_refl _) _).setCell (p := ⟨w.heap.size, 1, none⟩) (Nat.le_refl _) _).setCell (p := ⟨w.heap.size, 2, none⟩) (Nat.le_refl _) _).setCell (p := ⟨w.heap.size, 3, none⟩) (Nat.le_refl _) _).setCell (p := ⟨w.heap.size, 4, none⟩) (Nat.le_refl _) _).setCell (p := ⟨w.heap.size, 5, none⟩) (Nat.le_refl _) _).setCell (p := ⟨w.heap.size, 6, none⟩) (Nat.le_refl _) _).setCell (p := ⟨w.heap.size, 7, none⟩) (Nat.le_refl _) _).setCell (p := ⟨w.heap.size, 8, none⟩) (Nat.le_refl _) _).setCell (p := ⟨w.heap.size, 9, none⟩) (Nat.le_refl _) _)
  go_wp2_with fail
  have w0 : ∃ c, (PW w E0 E0 l true).drew = (PW w E0 E0 l true).drewN c := ⟨1, rfl⟩
  go_region_held3 (fun w' => w'.cell? ⟨w.heap.size + 1 + 1 + 1 + 1, 0, none⟩ = some (.func (.func 28) #[] #[.pointer (some ⟨w.heap.size + 1 + 1, 0, none⟩), .pointer (some ⟨w.heap.size + 1 + 1 + 1, 0, none⟩)]))
    (first
      | assumption
      | exact pw_fun (by assumption)
      | exact pw_fun w0)
    (first
      | (go_at_call 28; (with_reducible refine (until_h (sep := ⟨#[60]⟩) w0 J1.out rfl hm hl).mono ?_); rintro e w' ⟨rfl, hx⟩)
      | (go_at_call 28; (with_reducible refine (until_h (sep := ⟨#[62]⟩) (by assumption) J2.out rfl hm l1).mono ?_); rintro e w' ⟨rfl, hx⟩)
      | (go_at_call 28; (with_reducible refine (until_h (sep := ⟨#[32]⟩) (by assumption) J3.out rfl hm l2).mono ?_); rintro e w' ⟨rfl, hx⟩))
  rename World => w3
  obtain ⟨c, hc⟩ : ∃ c, w3 = (PW w E0 E0 r3 true).drewN c := by assumption
  subst hc
  rename_i hHeld
  clear hHeld w0
  go_wp2_with fail
  refine (told_t J4.out hm l3).mono ?_
  rintro e w' ⟨rfl, c', rfl⟩
  go_wp2_with fail
  refine (told_t J5.out hm l4).mono ?_
  rintro e w' ⟨rfl, c', rfl⟩
  go_wp2_with fail
  refine (told_t J6.out hm l5).mono ?_
  rintro e w' ⟨rfl, c', rfl⟩
  go_wp2_with fail
  refine (told_t J7.out hm l6).mono ?_
  rintro e w' ⟨rfl, c', rfl⟩
  go_wp2_with fail
  refine (told_t J8.out hm l7).mono ?_
  rintro e w' ⟨rfl, c', rfl⟩
  go_wp2_with fail
  obtain ⟨W0, hW0⟩ : ∃ W0, ((((((w.alloc E0).alloc (.cells #[.int .i64 0, .int .i64 0, .bool false, .int .i64 0, .string (bytes h), .string (bytes a), .string (bytes p), .string (bytes i), .slice none 0 0, .string ⟨#[]⟩] 29)).alloc (.cells #[.string (bytes r8)] 9)).alloc (.cells #[.bool true] 4)).alloc (.cells #[.func (.func 28) #[] #[.pointer (some ⟨w.heap.size + 2, 0, none⟩), .pointer (some ⟨w.heap.size + 3, 0, none⟩)]] 80)).drewN c') = W0 := ⟨_, rfl⟩
  have hP0 : PAt w W0 (.int .i64 0) (.int .i64 0) (.bool false) (.int .i64 0) (.string (bytes h)) (.string (bytes a)) (.string (bytes p)) (.string (bytes i)) (.slice none 0 0) (.string ⟨#[]⟩) r8 := by
    rw [← hW0]
    constructor
    · simp [go_sem]
    · simp [go_sem]
    · simp [go_sem]
    · simp [go_sem]
    · simp [go_sem]
    · simp [go_sem]
    · simp [go_sem]
    · simp [go_sem]
    · simp [go_sem]
    · simp [go_sem]
    · simp [go_sem]
    · simp [go_sem]
    · simp <;> omega
    · intro o; simp [go_sem]
    · intro o; simp [go_sem]
    · intro o; simp [go_sem]
    · intro o; simp [go_sem]
    · exact (((((((Below.refl _ _).alloc (Nat.le_refl _) _).alloc (by simp) _).alloc (by simp <;> omega) _).alloc (by simp <;> omega) _).alloc (by simp <;> omega) _)).trans ((drewN_below _ _).mono (by simp <;> omega))
    · intro k hk
      match k, hk with
      | 0, _ => exact ⟨.int .i64 0, by simp [go_sem]⟩
      | 1, _ => exact ⟨.int .i64 0, by simp [go_sem]⟩
      | 2, _ => exact ⟨.bool false, by simp [go_sem]⟩
      | 3, _ => exact ⟨.int .i64 0, by simp [go_sem]⟩
      | 4, _ => exact ⟨.string ⟨#[]⟩, by simp [go_sem]⟩
      | 5, _ => exact ⟨.string ⟨#[]⟩, by simp [go_sem]⟩
      | 6, _ => exact ⟨.string ⟨#[]⟩, by simp [go_sem]⟩
      | 7, _ => exact ⟨.string ⟨#[]⟩, by simp [go_sem]⟩
      | 8, _ => exact ⟨.slice none 0 0, by simp [go_sem]⟩
      | 9, _ => exact ⟨.string ⟨#[]⟩, by simp [go_sem]⟩
  rw [hW0]
  clear hW0
  refine (CO'.out _ hP0.b).mono ?_
  rintro e W1 ⟨rfl, hb1⟩
  have hP1 := hP0.below hb1
  clear hb1 hP0
  have k0 := hP1.k0
  have k1 := hP1.k1
  have k2 := hP1.k2
  have k3 := hP1.k3
  have k4 := hP1.k4
  have k5 := hP1.k5
  have k6 := hP1.k6
  have k7 := hP1.k7
  have k8 := hP1.k8
  have k9 := hP1.k9
  have kr : W1.cell? ⟨w.heap.size + 1 + 1, 0, none⟩ = some (.string (bytes r8)) := hP1.kr
  have kf : W1.cell? ⟨w.heap.size + 1 + 1 + 1, 0, none⟩ = some (.bool true) := hP1.kf
  have f0 := hP1.f0
  have f1 := hP1.f1
  have f2 : ∀ o, W1.frozen? ⟨w.heap.size + 1 + 1, o, none⟩ = false := hP1.f2
  have f3 : ∀ o, W1.frozen? ⟨w.heap.size + 1 + 1 + 1, o, none⟩ = false := hP1.f3
  go_wp2_with fail
  have hP2 := ((hP1.set1 (.int .i64 fr)).set0 (.int .i64 gr)).setf
  clear k0 k1 k2 k3 k4 k5 k6 k7 k8 k9 kr kf f0 f1 f2 f3
  refine (CM'.out _ hP2.b).mono ?_
  rintro e W2 ⟨rfl, hb2⟩
  have hP3 := hP2.below hb2
  clear hb2 hP2 hP1
  have k0 := hP3.k0
  have k1 := hP3.k1
  have k2 := hP3.k2
  have k3 := hP3.k3
  have k4 := hP3.k4
  have k5 := hP3.k5
  have k6 := hP3.k6
  have k7 := hP3.k7
  have k8 := hP3.k8
  have k9 := hP3.k9
  have kr : W2.cell? ⟨w.heap.size + 1 + 1, 0, none⟩ = some (.string (bytes r8)) := hP3.kr
  have kf : W2.cell? ⟨w.heap.size + 1 + 1 + 1, 0, none⟩ = some (.bool true) := hP3.kf
  have f0 := hP3.f0
  have f1 := hP3.f1
  have f2 : ∀ o, W2.frozen? ⟨w.heap.size + 1 + 1, o, none⟩ = false := hP3.f2
  have f3 : ∀ o, W2.frozen? ⟨w.heap.size + 1 + 1 + 1, o, none⟩ = false := hP3.f3
  have U := hP3.up
  have HU := Lib.hid U
  have hz := hP3.z
  clear U
  go_wp2
  go_step3
  change 0 = 0 ∧ GivesUp w _ _
  exact ⟨rfl, (((HU.out.set (by omega) _).set (by omega) _).set (by omega) _).up (by constructor)⟩
end Go.Proofs.YtmmghppjhmdikaaGreatDoor
/- What sysl.Parse answers where its head isn't one. -/
namespace Go.Proofs.YtmmghppjhmdikaaGreatDoor
open Go.ChangeShapes Go.WideShapes Go.ChangeAt Go.RowKit

theorem pw_up (w : World) (o1 : Obj) (r : List UInt8) (f : Bool) (c : Nat) : WUp w ((PW w E0 o1 r f).drewN c) where
  b := pw_below w E0 o1 r f c
  z := by simp <;> omega
  f := fun o => by simp [go_sem]
  e := fun k hk => by
    match k, hk with
    | 0, _ => exact ⟨.int .i64 0, by simp [go_sem]⟩
    | 1, _ => exact ⟨.int .i64 0, by simp [go_sem]⟩
    | 2, _ => exact ⟨.bool false, by simp [go_sem]⟩
    | 3, _ => exact ⟨.int .i64 0, by simp [go_sem]⟩
    | 4, _ => exact ⟨.string ⟨#[]⟩, by simp [go_sem]⟩
    | 5, _ => exact ⟨.string ⟨#[]⟩, by simp [go_sem]⟩
    | 6, _ => exact ⟨.string ⟨#[]⟩, by simp [go_sem]⟩
    | 7, _ => exact ⟨.string ⟨#[]⟩, by simp [go_sem]⟩
    | 8, _ => exact ⟨.slice none 0 0, by simp [go_sem]⟩
    | 9, _ => exact ⟨.string ⟨#[]⟩, by simp [go_sem]⟩
set_option maxHeartbeats 4000000 in
set_option maxRecDepth 100000 in
theorem parse_b0 (l r1 r2 r3 r4 r5 r6 r7 r8 ahead dec form date h a p i : List UInt8) (f1 f2 f3 f4 f5 f6 f7 f8 : Bool) (w : World) (hm : Max w) (hl : l.length ≤ 16777216)
    (H1 : untilL [60] (l, true) = (ahead, r1, f1)) (H2 : untilL [62] (r1, f1) = (dec, r2, f2)) (H3 : untilL [32] (r2, f2) = (form, r3, f3)) (K1 : toldL (r3, f3) = (date, r4, f4))
    (K2 : toldL (r4, f4) = (h, r5, f5)) (K3 : toldL (r5, f5) = (a, r6, f6)) (K4 : toldL (r6, f6) = (p, r7, f7)) (K5 : toldL (r7, f7) = (i, r8, f8))
    (hbad : ¬ (f8 = true ∧ ahead = [] ∧ form = [49])) :
    Calls Tryz.prog 16 #[.string (bytes l)] w (BadAns w) := by
  have l1 : r1.length ≤ 16777216 := by have := until_len [60] (l, true); rw [H1] at this; exact Nat.le_trans this hl
  have l2 : r2.length ≤ 16777216 := by have := until_len [62] (r1, f1); rw [H2] at this; exact Nat.le_trans this l1
  have l3 : r3.length ≤ 16777216 := by have := until_len [32] (r2, f2); rw [H3] at this; exact Nat.le_trans this l2
  have l4 : r4.length ≤ 16777216 := by have := told_len (r3, f3); rw [K1] at this; exact Nat.le_trans this l3
  have l5 : r5.length ≤ 16777216 := by have := told_len (r4, f4); rw [K2] at this; exact Nat.le_trans this l4
  have l6 : r6.length ≤ 16777216 := by have := told_len (r5, f5); rw [K3] at this; exact Nat.le_trans this l5
  have l7 : r7.length ≤ 16777216 := by have := told_len (r6, f6); rw [K4] at this; exact Nat.le_trans this l6
  have J1 := Lib.hid H1
  have J2 := Lib.hid H2
  have J3 := Lib.hid H3
  have J4 := Lib.hid K1
  have J5 := Lib.hid K2
  have J6 := Lib.hid K3
  have J7 := Lib.hid K4
  have J8 := Lib.hid K5
  clear H1 H2 H3 K1 K2 K3 K4 K5
  have hsd : ∀ (X : World) (n : Nat) (p : Addr) (v : Value), (X.drewN n).setCell p v = (X.setCell p v).drewN n := fun _ _ _ _ => rfl
  obtain ⟨b1, hb1⟩ : ∃ b, decide (ahead = []) = b := ⟨_, rfl⟩
  obtain ⟨b2, hb2⟩ : ∃ b, decide (form = [49]) = b := ⟨_, rfl⟩
  have q1 : (bytes ahead).toList.isEmpty = b1 := by rw [bytes_empty, hb1]
  have q2 : ((bytes form).toList == [49]) = b2 := by
    rw [Lib.toList_data, bytes_list, ← hb2]
    by_cases hf : form = [49]
    · rw [hf, decide_eq_true rfl]; rfl
    · rw [decide_eq_false hf]; exact beq_eq_false_iff_ne.2 hf
  have hway : f8 = false ∨ (f8 = true ∧ b1 = false) ∨ (f8 = true ∧ b1 = true ∧ b2 = false) := by
    cases f8 with
    | false => exact .inl rfl
    | true =>
      cases hc1 : b1 with
      | false => exact .inr (.inl ⟨rfl, rfl⟩)
      | true =>
        cases hc2 : b2 with
        | false => exact .inr (.inr ⟨rfl, rfl, rfl⟩)
        | true =>
          rw [hc1] at hb1
          rw [hc2] at hb2
          exact absurd ⟨rfl, of_decide_eq_true hb1, of_decide_eq_true hb2⟩ hbad
  clear hb1 hb2 hbad
  go_enter Tryz.func16, Tryz.ntmps16
  go_wp2_with fail
  refine wp_scope_jumps 0 (GivesUp w) (fun _ _ => 0) rfl ?first ?pass
  case pass =>
    rintro a w1 ⟨ha, BB, hz, hfz, hex⟩
    obtain ⟨v0, e0⟩ := hex 0 (by decide)
    obtain ⟨v1, e1⟩ := hex 1 (by decide)
    obtain ⟨v2, e2⟩ := hex 2 (by decide)
    obtain ⟨v3, e3⟩ := hex 3 (by decide)
    obtain ⟨v4, e4⟩ := hex 4 (by decide)
    obtain ⟨v5, e5⟩ := hex 5 (by decide)
    obtain ⟨v6, e6⟩ := hex 6 (by decide)
    obtain ⟨v7, e7⟩ := hex 7 (by decide)
    obtain ⟨v8, e8⟩ := hex 8 (by decide)
    obtain ⟨v9, e9⟩ := hex 9 (by decide)
    clear hex J1 J2 J3 J4 J5 J6 J7 J8 hm
    have HBB := Lib.hid BB
    clear BB
    cases ha
    go_wp2
    change bodyPost Tryz.prog Tryz.f16 (BadAns w) Exit.ret _ _
    refine bodyPost_ret (v := .tuple #[.agg #[.int .i64 0, .int .i64 0, .bool false, .int .i64 0, .string ⟨#[]⟩, .string ⟨#[]⟩, .string ⟨#[]⟩, .string ⟨#[]⟩, .slice none 0 0, .string ⟨#[]⟩], .int .i64 3])
      (by simp [results, Tryz.results16, go_sem, e0, e1, e2, e3, e4, e5, e6, e7, e8, e9]) rfl ⟨rfl, ?_⟩
    exact (((((((((((HBB.out).setCell (p := ⟨w.heap.size, 0, none⟩) (Nat.le_refl _) _).setCell (p := ⟨w.heap.size, 1, none⟩) (Nat.le_refl _) _).setCell (p := ⟨w.heap.size, 2, none⟩) (Nat.le_refl _) _).setCell (p := ⟨w.heap.size, 3, none⟩) (Nat.le_refl _) _).setCell (p := ⟨w.heap.size, 4, none⟩) (Nat.le_refl _) _).setCell (p := ⟨w.heap.size, 5, none⟩) (Nat.le_refl _) _).setCell (p := ⟨w.heap.size, 6, none⟩) (Nat.le_refl _) _).setCell (p := ⟨w.heap.size, 7, none⟩) (Nat.le_refl _) _).setCell (p := ⟨w.heap.size, 8, none⟩) (Nat.le_refl _) _).setCell (p := ⟨w.heap.size, 9, none⟩) (Nat.le_refl _) _)
  go_wp2_with fail
  have w0 : ∃ c, (PW w E0 E0 l true).drew = (PW w E0 E0 l true).drewN c := ⟨1, rfl⟩
  go_region_held3 (fun w' => w'.cell? ⟨w.heap.size + 1 + 1 + 1 + 1, 0, none⟩ = some (.func (.func 28) #[] #[.pointer (some ⟨w.heap.size + 1 + 1, 0, none⟩), .pointer (some ⟨w.heap.size + 1 + 1 + 1, 0, none⟩)]))
    (first
      | assumption
      | exact pw_fun (by assumption)
      | exact pw_fun w0)
    (first
      | (go_at_call 28; (with_reducible refine (until_h (sep := ⟨#[60]⟩) w0 J1.out rfl hm hl).mono ?_); rintro e w' ⟨rfl, hx⟩)
      | (go_at_call 28; (with_reducible refine (until_h (sep := ⟨#[62]⟩) (by assumption) J2.out rfl hm l1).mono ?_); rintro e w' ⟨rfl, hx⟩)
      | (go_at_call 28; (with_reducible refine (until_h (sep := ⟨#[32]⟩) (by assumption) J3.out rfl hm l2).mono ?_); rintro e w' ⟨rfl, hx⟩))
  rename World => w3
  obtain ⟨c, hc⟩ : ∃ c, w3 = (PW w E0 E0 r3 f3).drewN c := by assumption
  subst hc
  rename_i hHeld
  clear hHeld w0
  go_wp2_with fail
  refine (told_t J4.out hm l3).mono ?_
  rintro e w' ⟨rfl, c', rfl⟩
  go_wp2_with fail
  refine (told_t J5.out hm l4).mono ?_
  rintro e w' ⟨rfl, c', rfl⟩
  go_wp2_with fail
  refine (told_t J6.out hm l5).mono ?_
  rintro e w' ⟨rfl, c', rfl⟩
  go_wp2_with fail
  refine (told_t J7.out hm l6).mono ?_
  rintro e w' ⟨rfl, c', rfl⟩
  go_wp2_with fail
  refine (told_t J8.out hm l7).mono ?_
  rintro e w' ⟨rfl, c', rfl⟩
  rcases hway with rfl | ⟨rfl, rfl⟩ | ⟨rfl, rfl, rfl⟩
  · go_wp2
    go_step3
    change 0 = 0 ∧ GivesUp w _ _
    exact ⟨rfl, (pw_up w _ r8 _ _).up (by constructor)⟩
  · go_wp2
    go_step3
    change 0 = 0 ∧ GivesUp w _ _
    exact ⟨rfl, (pw_up w _ r8 _ _).up (by constructor)⟩
  · go_wp2
    go_step3
    change 0 = 0 ∧ GivesUp w _ _
    exact ⟨rfl, (pw_up w _ r8 _ _).up (by constructor)⟩
end Go.Proofs.YtmmghppjhmdikaaGreatDoor
/- What sysl.Parse answers, the calls' answers told of the worlds behind its own. Where it isn't a text: one of its parts is none. -/
namespace Go.Proofs.YtmmghppjhmdikaaGreatDoor
open Go.ChangeShapes Go.WideShapes Go.ChangeAt Go.RowKit

set_option maxHeartbeats 4000000 in
set_option maxRecDepth 100000 in
theorem parse_b3 (l r1 r2 r3 r4 r5 r6 r7 r8 dec date h a p i : List UInt8) (fr gr at' : Int) (td : Bool) (w : World) (_ : Std w) (hm : Max w) (hl : l.length ≤ 16777216)
    (H1 : untilL [60] (l, true) = ([], r1, true)) (H2 : untilL [62] (r1, true) = (dec, r2, true)) (H3 : untilL [32] (r2, true) = ([49], r3, true)) (K1 : toldL (r3, true) = (date, r4, true))
    (K2 : toldL (r4, true) = (h, r5, true)) (K3 : toldL (r5, true) = (a, r6, true)) (K4 : toldL (r6, true) = (p, r7, true)) (K5 : toldL (r7, true) = (i, r8, true))
    (CO : ∀ W, Below w.heap.size w W → Calls Tryz.prog 31 #[.string (bytes dec)] W fun e w' => e = .returned (.tuple #[.int .i64 fr, .int .i64 gr, .bool true]) ∧ Below W.heap.size W w')
    (CM : ∀ W, Below w.heap.size w W → Calls Tryz.prog 32 #[.string (bytes date)] W fun e w' => e = .returned (.tuple #[.bool td, .int .i64 at', .bool true]) ∧ Below W.heap.size W w')
    (CE : ∀ W, Below w.heap.size w W → Calls Tryz.prog 33 #[.string (bytes r8)] W fun e w' => (∃ r, e = .returned (.tuple #[.slice none 0 0, .string (bytes r), .bool false])) ∧ Below W.heap.size W w') :
    Calls Tryz.prog 16 #[.string (bytes l)] w (BadAns w) := by
  have l1 : r1.length ≤ 16777216 := by have := until_len [60] (l, true); rw [H1] at this; exact Nat.le_trans this hl
  have l2 : r2.length ≤ 16777216 := by have := until_len [62] (r1, true); rw [H2] at this; exact Nat.le_trans this l1
  have l3 : r3.length ≤ 16777216 := by have := until_len [32] (r2, true); rw [H3] at this; exact Nat.le_trans this l2
  have l4 : r4.length ≤ 16777216 := by have := told_len (r3, true); rw [K1] at this; exact Nat.le_trans this l3
  have l5 : r5.length ≤ 16777216 := by have := told_len (r4, true); rw [K2] at this; exact Nat.le_trans this l4
  have l6 : r6.length ≤ 16777216 := by have := told_len (r5, true); rw [K3] at this; exact Nat.le_trans this l5
  have l7 : r7.length ≤ 16777216 := by have := told_len (r6, true); rw [K4] at this; exact Nat.le_trans this l6
  have J1 := Lib.hid H1
  have J2 := Lib.hid H2
  have J3 := Lib.hid H3
  have J4 := Lib.hid K1
  have J5 := Lib.hid K2
  have J6 := Lib.hid K3
  have J7 := Lib.hid K4
  have J8 := Lib.hid K5
  have CO' := Lib.hid CO
  have CM' := Lib.hid CM
  have CE' := Lib.hid CE
  clear H1 H2 H3 K1 K2 K3 K4 K5 CO CM CE
  have hsd : ∀ (X : World) (n : Nat) (p : Addr) (v : Value), (X.drewN n).setCell p v = (X.setCell p v).drewN n := fun _ _ _ _ => rfl
  have q1 : (bytes []).toList.isEmpty = true := by rw [Lib.toList_data]; rfl
  have q2 : ((bytes [49]).toList == [49]) = true := by rw [Lib.toList_data]; rfl
  go_enter Tryz.func16, Tryz.ntmps16
  go_wp2_with fail
  refine wp_scope_jumps 0 (GivesUp w) (fun _ _ => 0) rfl ?first ?pass
  case pass =>
    rintro a w1 ⟨ha, BB, hz, hfz, hex⟩
    obtain ⟨v0, e0⟩ := hex 0 (by decide)
    obtain ⟨v1, e1⟩ := hex 1 (by decide)
    obtain ⟨v2, e2⟩ := hex 2 (by decide)
    obtain ⟨v3, e3⟩ := hex 3 (by decide)
    obtain ⟨v4, e4⟩ := hex 4 (by decide)
    obtain ⟨v5, e5⟩ := hex 5 (by decide)
    obtain ⟨v6, e6⟩ := hex 6 (by decide)
    obtain ⟨v7, e7⟩ := hex 7 (by decide)
    obtain ⟨v8, e8⟩ := hex 8 (by decide)
    obtain ⟨v9, e9⟩ := hex 9 (by decide)
    clear hex J1 J2 J3 J4 J5 J6 J7 J8 CO' CM' CE' hm
    have HBB := Lib.hid BB
    clear BB
    cases ha
    go_wp2
    change bodyPost Tryz.prog Tryz.f16 (BadAns w) Exit.ret _ _
    refine bodyPost_ret (v := .tuple #[.agg #[.int .i64 0, .int .i64 0, .bool false, .int .i64 0, .string ⟨#[]⟩, .string ⟨#[]⟩, .string ⟨#[]⟩, .string ⟨#[]⟩, .slice none 0 0, .string ⟨#[]⟩], .int .i64 3])
      (by simp [results, Tryz.results16, go_sem, e0, e1, e2, e3, e4, e5, e6, e7, e8, e9]) rfl ⟨rfl, ?_⟩
    exact (((((((((((HBB.out).setCell (p := ⟨w.heap.size, 0, none⟩) (Nat.le_refl _) _).setCell (p := ⟨w.heap.size, 1, none⟩) (Nat.le_refl _) _).setCell (p := ⟨w.heap.size, 2, none⟩) (Nat.le_refl _) _).setCell (p := ⟨w.heap.size, 3, none⟩) (Nat.le_refl _) _).setCell (p := ⟨w.heap.size, 4, none⟩) (Nat.le_refl _) _).setCell (p := ⟨w.heap.size, 5, none⟩) (Nat.le_refl _) _).setCell (p := ⟨w.heap.size, 6, none⟩) (Nat.le_refl _) _).setCell (p := ⟨w.heap.size, 7, none⟩) (Nat.le_refl _) _).setCell (p := ⟨w.heap.size, 8, none⟩) (Nat.le_refl _) _).setCell (p := ⟨w.heap.size, 9, none⟩) (Nat.le_refl _) _)
  go_wp2_with fail
  have w0 : ∃ c, (PW w E0 E0 l true).drew = (PW w E0 E0 l true).drewN c := ⟨1, rfl⟩
  go_region_held3 (fun w' => w'.cell? ⟨w.heap.size + 1 + 1 + 1 + 1, 0, none⟩ = some (.func (.func 28) #[] #[.pointer (some ⟨w.heap.size + 1 + 1, 0, none⟩), .pointer (some ⟨w.heap.size + 1 + 1 + 1, 0, none⟩)]))
    (first
      | assumption
      | exact pw_fun (by assumption)
      | exact pw_fun w0)
    (first
      | (go_at_call 28; (with_reducible refine (until_h (sep := ⟨#[60]⟩) w0 J1.out rfl hm hl).mono ?_); rintro e w' ⟨rfl, hx⟩)
      | (go_at_call 28; (with_reducible refine (until_h (sep := ⟨#[62]⟩) (by assumption) J2.out rfl hm l1).mono ?_); rintro e w' ⟨rfl, hx⟩)
      | (go_at_call 28; (with_reducible refine (until_h (sep := ⟨#[32]⟩) (by assumption) J3.out rfl hm l2).mono ?_); rintro e w' ⟨rfl, hx⟩))
  rename World => w3
  obtain ⟨c, hc⟩ : ∃ c, w3 = (PW w E0 E0 r3 true).drewN c := by assumption
  subst hc
  rename_i hHeld
  clear hHeld w0
  go_wp2_with fail
  refine (told_t J4.out hm l3).mono ?_
  rintro e w' ⟨rfl, c', rfl⟩
  go_wp2_with fail
  refine (told_t J5.out hm l4).mono ?_
  rintro e w' ⟨rfl, c', rfl⟩
  go_wp2_with fail
  refine (told_t J6.out hm l5).mono ?_
  rintro e w' ⟨rfl, c', rfl⟩
  go_wp2_with fail
  refine (told_t J7.out hm l6).mono ?_
  rintro e w' ⟨rfl, c', rfl⟩
  go_wp2_with fail
  refine (told_t J8.out hm l7).mono ?_
  rintro e w' ⟨rfl, c', rfl⟩
  go_wp2_with fail
  obtain ⟨W0, hW0⟩ : ∃ W0, ((((((w.alloc E0).alloc (.cells #[.int .i64 0, .int .i64 0, .bool false, .int .i64 0, .string (bytes h), .string (bytes a), .string (bytes p), .string (bytes i), .slice none 0 0, .string ⟨#[]⟩] 29)).alloc (.cells #[.string (bytes r8)] 9)).alloc (.cells #[.bool true] 4)).alloc (.cells #[.func (.func 28) #[] #[.pointer (some ⟨w.heap.size + 2, 0, none⟩), .pointer (some ⟨w.heap.size + 3, 0, none⟩)]] 80)).drewN c') = W0 := ⟨_, rfl⟩
  have hP0 : PAt w W0 (.int .i64 0) (.int .i64 0) (.bool false) (.int .i64 0) (.string (bytes h)) (.string (bytes a)) (.string (bytes p)) (.string (bytes i)) (.slice none 0 0) (.string ⟨#[]⟩) r8 := by
    rw [← hW0]
    constructor
    · simp [go_sem]
    · simp [go_sem]
    · simp [go_sem]
    · simp [go_sem]
    · simp [go_sem]
    · simp [go_sem]
    · simp [go_sem]
    · simp [go_sem]
    · simp [go_sem]
    · simp [go_sem]
    · simp [go_sem]
    · simp [go_sem]
    · simp <;> omega
    · intro o; simp [go_sem]
    · intro o; simp [go_sem]
    · intro o; simp [go_sem]
    · intro o; simp [go_sem]
    · exact (((((((Below.refl _ _).alloc (Nat.le_refl _) _).alloc (by simp) _).alloc (by simp <;> omega) _).alloc (by simp <;> omega) _).alloc (by simp <;> omega) _)).trans ((drewN_below _ _).mono (by simp <;> omega))
    · intro k hk
      match k, hk with
      | 0, _ => exact ⟨.int .i64 0, by simp [go_sem]⟩
      | 1, _ => exact ⟨.int .i64 0, by simp [go_sem]⟩
      | 2, _ => exact ⟨.bool false, by simp [go_sem]⟩
      | 3, _ => exact ⟨.int .i64 0, by simp [go_sem]⟩
      | 4, _ => exact ⟨.string ⟨#[]⟩, by simp [go_sem]⟩
      | 5, _ => exact ⟨.string ⟨#[]⟩, by simp [go_sem]⟩
      | 6, _ => exact ⟨.string ⟨#[]⟩, by simp [go_sem]⟩
      | 7, _ => exact ⟨.string ⟨#[]⟩, by simp [go_sem]⟩
      | 8, _ => exact ⟨.slice none 0 0, by simp [go_sem]⟩
      | 9, _ => exact ⟨.string ⟨#[]⟩, by simp [go_sem]⟩
  rw [hW0]
  clear hW0
  refine (CO'.out _ hP0.b).mono ?_
  rintro e W1 ⟨rfl, hb1⟩
  have hP1 := hP0.below hb1
  clear hb1 hP0
  have k0 := hP1.k0
  have k1 := hP1.k1
  have k2 := hP1.k2
  have k3 := hP1.k3
  have k4 := hP1.k4
  have k5 := hP1.k5
  have k6 := hP1.k6
  have k7 := hP1.k7
  have k8 := hP1.k8
  have k9 := hP1.k9
  have kr : W1.cell? ⟨w.heap.size + 1 + 1, 0, none⟩ = some (.string (bytes r8)) := hP1.kr
  have kf : W1.cell? ⟨w.heap.size + 1 + 1 + 1, 0, none⟩ = some (.bool true) := hP1.kf
  have f0 := hP1.f0
  have f1 := hP1.f1
  have f2 : ∀ o, W1.frozen? ⟨w.heap.size + 1 + 1, o, none⟩ = false := hP1.f2
  have f3 : ∀ o, W1.frozen? ⟨w.heap.size + 1 + 1 + 1, o, none⟩ = false := hP1.f3
  go_wp2_with fail
  have hP2 := ((hP1.set1 (.int .i64 fr)).set0 (.int .i64 gr)).setf
  clear k0 k1 k2 k3 k4 k5 k6 k7 k8 k9 kr kf f0 f1 f2 f3
  refine (CM'.out _ hP2.b).mono ?_
  rintro e W2 ⟨rfl, hb2⟩
  have hP3 := hP2.below hb2
  clear hb2 hP2 hP1
  have k0 := hP3.k0
  have k1 := hP3.k1
  have k2 := hP3.k2
  have k3 := hP3.k3
  have k4 := hP3.k4
  have k5 := hP3.k5
  have k6 := hP3.k6
  have k7 := hP3.k7
  have k8 := hP3.k8
  have k9 := hP3.k9
  have kr : W2.cell? ⟨w.heap.size + 1 + 1, 0, none⟩ = some (.string (bytes r8)) := hP3.kr
  have kf : W2.cell? ⟨w.heap.size + 1 + 1 + 1, 0, none⟩ = some (.bool true) := hP3.kf
  have f0 := hP3.f0
  have f1 := hP3.f1
  have f2 : ∀ o, W2.frozen? ⟨w.heap.size + 1 + 1, o, none⟩ = false := hP3.f2
  have f3 : ∀ o, W2.frozen? ⟨w.heap.size + 1 + 1 + 1, o, none⟩ = false := hP3.f3
  go_wp2_with fail
  have hP4 := ((hP3.set2 (.bool td)).set3 (.int .i64 at')).setf
  clear k0 k1 k2 k3 k4 k5 k6 k7 k8 k9 kr kf f0 f1 f2 f3
  refine (CE'.out _ hP4.b).mono ?_
  rintro e W3 ⟨⟨rr, rfl⟩, hb3⟩
  have hP5 := hP4.below hb3
  clear hb3 hP4 hP3
  have k0 := hP5.k0
  have k1 := hP5.k1
  have k2 := hP5.k2
  have k3 := hP5.k3
  have k4 := hP5.k4
  have k5 := hP5.k5
  have k6 := hP5.k6
  have k7 := hP5.k7
  have k8 := hP5.k8
  have k9 := hP5.k9
  have kr : W3.cell? ⟨w.heap.size + 1 + 1, 0, none⟩ = some (.string (bytes r8)) := hP5.kr
  have kf : W3.cell? ⟨w.heap.size + 1 + 1 + 1, 0, none⟩ = some (.bool true) := hP5.kf
  have f0 := hP5.f0
  have f1 := hP5.f1
  have f2 : ∀ o, W3.frozen? ⟨w.heap.size + 1 + 1, o, none⟩ = false := hP5.f2
  have f3 : ∀ o, W3.frozen? ⟨w.heap.size + 1 + 1 + 1, o, none⟩ = false := hP5.f3
  have U := hP5.up
  have HU := Lib.hid U
  have hz := hP5.z
  clear U
  go_wp2
  go_step3
  change 0 = 0 ∧ GivesUp w _ _
  exact ⟨rfl, (((HU.out.set (by omega) _).set (by omega) _).set (by omega) _).up (by constructor)⟩
set_option maxHeartbeats 4000000 in
set_option maxRecDepth 100000 in
theorem parse_b4 (l r1 r2 r3 r4 r5 r6 r7 r8 r9 dec date h a p i tx : List UInt8) (fr gr at' : Int) (td : Bool) (es : List Elm) (w : World) (_ : Std w) (hm : Max w) (hl : l.length ≤ 16777216)
    (H1 : untilL [60] (l, true) = ([], r1, true)) (H2 : untilL [62] (r1, true) = (dec, r2, true)) (H3 : untilL [32] (r2, true) = ([49], r3, true)) (K1 : toldL (r3, true) = (date, r4, true))
    (K2 : toldL (r4, true) = (h, r5, true)) (K3 : toldL (r5, true) = (a, r6, true)) (K4 : toldL (r6, true) = (p, r7, true)) (K5 : toldL (r7, true) = (i, r8, true))
    (CO : ∀ W, Below w.heap.size w W → Calls Tryz.prog 31 #[.string (bytes dec)] W fun e w' => e = .returned (.tuple #[.int .i64 fr, .int .i64 gr, .bool true]) ∧ Below W.heap.size W w')
    (CM : ∀ W, Below w.heap.size w W → Calls Tryz.prog 32 #[.string (bytes date)] W fun e w' => e = .returned (.tuple #[.bool td, .int .i64 at', .bool true]) ∧ Below W.heap.size W w')
    (CE : ∀ W, Below w.heap.size w W → Calls Tryz.prog 33 #[.string (bytes r8)] W fun e w' => ∃ la lc, e = .returned (.tuple #[.slice la es.length lc, .string (bytes r9), .bool true]) ∧ (∀ V, Agree W.heap.size w' V → ElmsAt V (.slice la es.length lc) es) ∧ Below W.heap.size W w')
    (CB : ∀ W, Below w.heap.size w W → Calls Tryz.prog 34 #[.string (bytes r9)] W fun e w' => e = .returned (.tuple #[.string (bytes tx), .bool false]) ∧ Below W.heap.size W w') :
    Calls Tryz.prog 16 #[.string (bytes l)] w (BadAns w) := by
  have l1 : r1.length ≤ 16777216 := by have := until_len [60] (l, true); rw [H1] at this; exact Nat.le_trans this hl
  have l2 : r2.length ≤ 16777216 := by have := until_len [62] (r1, true); rw [H2] at this; exact Nat.le_trans this l1
  have l3 : r3.length ≤ 16777216 := by have := until_len [32] (r2, true); rw [H3] at this; exact Nat.le_trans this l2
  have l4 : r4.length ≤ 16777216 := by have := told_len (r3, true); rw [K1] at this; exact Nat.le_trans this l3
  have l5 : r5.length ≤ 16777216 := by have := told_len (r4, true); rw [K2] at this; exact Nat.le_trans this l4
  have l6 : r6.length ≤ 16777216 := by have := told_len (r5, true); rw [K3] at this; exact Nat.le_trans this l5
  have l7 : r7.length ≤ 16777216 := by have := told_len (r6, true); rw [K4] at this; exact Nat.le_trans this l6
  have J1 := Lib.hid H1
  have J2 := Lib.hid H2
  have J3 := Lib.hid H3
  have J4 := Lib.hid K1
  have J5 := Lib.hid K2
  have J6 := Lib.hid K3
  have J7 := Lib.hid K4
  have J8 := Lib.hid K5
  have CO' := Lib.hid CO
  have CM' := Lib.hid CM
  have CE' := Lib.hid CE
  have CB' := Lib.hid CB
  clear H1 H2 H3 K1 K2 K3 K4 K5 CO CM CE CB
  have hsd : ∀ (X : World) (n : Nat) (p : Addr) (v : Value), (X.drewN n).setCell p v = (X.setCell p v).drewN n := fun _ _ _ _ => rfl
  have q1 : (bytes []).toList.isEmpty = true := by rw [Lib.toList_data]; rfl
  have q2 : ((bytes [49]).toList == [49]) = true := by rw [Lib.toList_data]; rfl
  go_enter Tryz.func16, Tryz.ntmps16
  go_wp2_with fail
  refine wp_scope_jumps 0 (GivesUp w) (fun _ _ => 0) rfl ?first ?pass
  case pass =>
    rintro a w1 ⟨ha, BB, hz, hfz, hex⟩
    obtain ⟨v0, e0⟩ := hex 0 (by decide)
    obtain ⟨v1, e1⟩ := hex 1 (by decide)
    obtain ⟨v2, e2⟩ := hex 2 (by decide)
    obtain ⟨v3, e3⟩ := hex 3 (by decide)
    obtain ⟨v4, e4⟩ := hex 4 (by decide)
    obtain ⟨v5, e5⟩ := hex 5 (by decide)
    obtain ⟨v6, e6⟩ := hex 6 (by decide)
    obtain ⟨v7, e7⟩ := hex 7 (by decide)
    obtain ⟨v8, e8⟩ := hex 8 (by decide)
    obtain ⟨v9, e9⟩ := hex 9 (by decide)
    clear hex J1 J2 J3 J4 J5 J6 J7 J8 CO' CM' CE' CB' hm
    have HBB := Lib.hid BB
    clear BB
    cases ha
    go_wp2
    change bodyPost Tryz.prog Tryz.f16 (BadAns w) Exit.ret _ _
    refine bodyPost_ret (v := .tuple #[.agg #[.int .i64 0, .int .i64 0, .bool false, .int .i64 0, .string ⟨#[]⟩, .string ⟨#[]⟩, .string ⟨#[]⟩, .string ⟨#[]⟩, .slice none 0 0, .string ⟨#[]⟩], .int .i64 3])
      (by simp [results, Tryz.results16, go_sem, e0, e1, e2, e3, e4, e5, e6, e7, e8, e9]) rfl ⟨rfl, ?_⟩
    exact (((((((((((HBB.out).setCell (p := ⟨w.heap.size, 0, none⟩) (Nat.le_refl _) _).setCell (p := ⟨w.heap.size, 1, none⟩) (Nat.le_refl _) _).setCell (p := ⟨w.heap.size, 2, none⟩) (Nat.le_refl _) _).setCell (p := ⟨w.heap.size, 3, none⟩) (Nat.le_refl _) _).setCell (p := ⟨w.heap.size, 4, none⟩) (Nat.le_refl _) _).setCell (p := ⟨w.heap.size, 5, none⟩) (Nat.le_refl _) _).setCell (p := ⟨w.heap.size, 6, none⟩) (Nat.le_refl _) _).setCell (p := ⟨w.heap.size, 7, none⟩) (Nat.le_refl _) _).setCell (p := ⟨w.heap.size, 8, none⟩) (Nat.le_refl _) _).setCell (p := ⟨w.heap.size, 9, none⟩) (Nat.le_refl _) _)
  go_wp2_with fail
  have w0 : ∃ c, (PW w E0 E0 l true).drew = (PW w E0 E0 l true).drewN c := ⟨1, rfl⟩
  go_region_held3 (fun w' => w'.cell? ⟨w.heap.size + 1 + 1 + 1 + 1, 0, none⟩ = some (.func (.func 28) #[] #[.pointer (some ⟨w.heap.size + 1 + 1, 0, none⟩), .pointer (some ⟨w.heap.size + 1 + 1 + 1, 0, none⟩)]))
    (first
      | assumption
      | exact pw_fun (by assumption)
      | exact pw_fun w0)
    (first
      | (go_at_call 28; (with_reducible refine (until_h (sep := ⟨#[60]⟩) w0 J1.out rfl hm hl).mono ?_); rintro e w' ⟨rfl, hx⟩)
      | (go_at_call 28; (with_reducible refine (until_h (sep := ⟨#[62]⟩) (by assumption) J2.out rfl hm l1).mono ?_); rintro e w' ⟨rfl, hx⟩)
      | (go_at_call 28; (with_reducible refine (until_h (sep := ⟨#[32]⟩) (by assumption) J3.out rfl hm l2).mono ?_); rintro e w' ⟨rfl, hx⟩))
  rename World => w3
  obtain ⟨c, hc⟩ : ∃ c, w3 = (PW w E0 E0 r3 true).drewN c := by assumption
  subst hc
  rename_i hHeld
  clear hHeld w0
  go_wp2_with fail
  refine (told_t J4.out hm l3).mono ?_
  rintro e w' ⟨rfl, c', rfl⟩
  go_wp2_with fail
  refine (told_t J5.out hm l4).mono ?_
  rintro e w' ⟨rfl, c', rfl⟩
  go_wp2_with fail
  refine (told_t J6.out hm l5).mono ?_
  rintro e w' ⟨rfl, c', rfl⟩
  go_wp2_with fail
  refine (told_t J7.out hm l6).mono ?_
  rintro e w' ⟨rfl, c', rfl⟩
  go_wp2_with fail
  refine (told_t J8.out hm l7).mono ?_
  rintro e w' ⟨rfl, c', rfl⟩
  go_wp2_with fail
  obtain ⟨W0, hW0⟩ : ∃ W0, ((((((w.alloc E0).alloc (.cells #[.int .i64 0, .int .i64 0, .bool false, .int .i64 0, .string (bytes h), .string (bytes a), .string (bytes p), .string (bytes i), .slice none 0 0, .string ⟨#[]⟩] 29)).alloc (.cells #[.string (bytes r8)] 9)).alloc (.cells #[.bool true] 4)).alloc (.cells #[.func (.func 28) #[] #[.pointer (some ⟨w.heap.size + 2, 0, none⟩), .pointer (some ⟨w.heap.size + 3, 0, none⟩)]] 80)).drewN c') = W0 := ⟨_, rfl⟩
  have hP0 : PAt w W0 (.int .i64 0) (.int .i64 0) (.bool false) (.int .i64 0) (.string (bytes h)) (.string (bytes a)) (.string (bytes p)) (.string (bytes i)) (.slice none 0 0) (.string ⟨#[]⟩) r8 := by
    rw [← hW0]
    constructor
    · simp [go_sem]
    · simp [go_sem]
    · simp [go_sem]
    · simp [go_sem]
    · simp [go_sem]
    · simp [go_sem]
    · simp [go_sem]
    · simp [go_sem]
    · simp [go_sem]
    · simp [go_sem]
    · simp [go_sem]
    · simp [go_sem]
    · simp <;> omega
    · intro o; simp [go_sem]
    · intro o; simp [go_sem]
    · intro o; simp [go_sem]
    · intro o; simp [go_sem]
    · exact (((((((Below.refl _ _).alloc (Nat.le_refl _) _).alloc (by simp) _).alloc (by simp <;> omega) _).alloc (by simp <;> omega) _).alloc (by simp <;> omega) _)).trans ((drewN_below _ _).mono (by simp <;> omega))
    · intro k hk
      match k, hk with
      | 0, _ => exact ⟨.int .i64 0, by simp [go_sem]⟩
      | 1, _ => exact ⟨.int .i64 0, by simp [go_sem]⟩
      | 2, _ => exact ⟨.bool false, by simp [go_sem]⟩
      | 3, _ => exact ⟨.int .i64 0, by simp [go_sem]⟩
      | 4, _ => exact ⟨.string ⟨#[]⟩, by simp [go_sem]⟩
      | 5, _ => exact ⟨.string ⟨#[]⟩, by simp [go_sem]⟩
      | 6, _ => exact ⟨.string ⟨#[]⟩, by simp [go_sem]⟩
      | 7, _ => exact ⟨.string ⟨#[]⟩, by simp [go_sem]⟩
      | 8, _ => exact ⟨.slice none 0 0, by simp [go_sem]⟩
      | 9, _ => exact ⟨.string ⟨#[]⟩, by simp [go_sem]⟩
  rw [hW0]
  clear hW0
  refine (CO'.out _ hP0.b).mono ?_
  rintro e W1 ⟨rfl, hb1⟩
  have hP1 := hP0.below hb1
  clear hb1 hP0
  have k0 := hP1.k0
  have k1 := hP1.k1
  have k2 := hP1.k2
  have k3 := hP1.k3
  have k4 := hP1.k4
  have k5 := hP1.k5
  have k6 := hP1.k6
  have k7 := hP1.k7
  have k8 := hP1.k8
  have k9 := hP1.k9
  have kr : W1.cell? ⟨w.heap.size + 1 + 1, 0, none⟩ = some (.string (bytes r8)) := hP1.kr
  have kf : W1.cell? ⟨w.heap.size + 1 + 1 + 1, 0, none⟩ = some (.bool true) := hP1.kf
  have f0 := hP1.f0
  have f1 := hP1.f1
  have f2 : ∀ o, W1.frozen? ⟨w.heap.size + 1 + 1, o, none⟩ = false := hP1.f2
  have f3 : ∀ o, W1.frozen? ⟨w.heap.size + 1 + 1 + 1, o, none⟩ = false := hP1.f3
  go_wp2_with fail
  have hP2 := ((hP1.set1 (.int .i64 fr)).set0 (.int .i64 gr)).setf
  clear k0 k1 k2 k3 k4 k5 k6 k7 k8 k9 kr kf f0 f1 f2 f3
  refine (CM'.out _ hP2.b).mono ?_
  rintro e W2 ⟨rfl, hb2⟩
  have hP3 := hP2.below hb2
  clear hb2 hP2 hP1
  have k0 := hP3.k0
  have k1 := hP3.k1
  have k2 := hP3.k2
  have k3 := hP3.k3
  have k4 := hP3.k4
  have k5 := hP3.k5
  have k6 := hP3.k6
  have k7 := hP3.k7
  have k8 := hP3.k8
  have k9 := hP3.k9
  have kr : W2.cell? ⟨w.heap.size + 1 + 1, 0, none⟩ = some (.string (bytes r8)) := hP3.kr
  have kf : W2.cell? ⟨w.heap.size + 1 + 1 + 1, 0, none⟩ = some (.bool true) := hP3.kf
  have f0 := hP3.f0
  have f1 := hP3.f1
  have f2 : ∀ o, W2.frozen? ⟨w.heap.size + 1 + 1, o, none⟩ = false := hP3.f2
  have f3 : ∀ o, W2.frozen? ⟨w.heap.size + 1 + 1 + 1, o, none⟩ = false := hP3.f3
  go_wp2_with fail
  have hP4 := ((hP3.set2 (.bool td)).set3 (.int .i64 at')).setf
  clear k0 k1 k2 k3 k4 k5 k6 k7 k8 k9 kr kf f0 f1 f2 f3
  refine (CE'.out _ hP4.b).mono ?_
  rintro e W3 ⟨la, lc, rfl, _, hb3⟩
  have hP5 := hP4.below hb3
  clear hb3 hP4 hP3
  have k0 := hP5.k0
  have k1 := hP5.k1
  have k2 := hP5.k2
  have k3 := hP5.k3
  have k4 := hP5.k4
  have k5 := hP5.k5
  have k6 := hP5.k6
  have k7 := hP5.k7
  have k8 := hP5.k8
  have k9 := hP5.k9
  have kr : W3.cell? ⟨w.heap.size + 1 + 1, 0, none⟩ = some (.string (bytes r8)) := hP5.kr
  have kf : W3.cell? ⟨w.heap.size + 1 + 1 + 1, 0, none⟩ = some (.bool true) := hP5.kf
  have f0 := hP5.f0
  have f1 := hP5.f1
  have f2 : ∀ o, W3.frozen? ⟨w.heap.size + 1 + 1, o, none⟩ = false := hP5.f2
  have f3 : ∀ o, W3.frozen? ⟨w.heap.size + 1 + 1 + 1, o, none⟩ = false := hP5.f3
  go_wp2_with fail
  have hP6 := ((hP5.set8 (.slice la es.length lc)).setr r9).setf
  clear k0 k1 k2 k3 k4 k5 k6 k7 k8 k9 kr kf f0 f1 f2 f3
  refine (CB'.out _ hP6.b).mono ?_
  rintro e W4 ⟨rfl, hb4⟩
  have hP7 := hP6.below hb4
  clear hP6 hP5
  have k0 := hP7.k0
  have k1 := hP7.k1
  have k2 := hP7.k2
  have k3 := hP7.k3
  have k4 := hP7.k4
  have k5 := hP7.k5
  have k6 := hP7.k6
  have k7 := hP7.k7
  have k8 := hP7.k8
  have k9 := hP7.k9
  have kr : W4.cell? ⟨w.heap.size + 1 + 1, 0, none⟩ = some (.string (bytes r9)) := hP7.kr
  have kf : W4.cell? ⟨w.heap.size + 1 + 1 + 1, 0, none⟩ = some (.bool true) := hP7.kf
  have f0 := hP7.f0
  have f1 := hP7.f1
  have f2 : ∀ o, W4.frozen? ⟨w.heap.size + 1 + 1, o, none⟩ = false := hP7.f2
  have f3 : ∀ o, W4.frozen? ⟨w.heap.size + 1 + 1 + 1, o, none⟩ = false := hP7.f3
  have U := hP7.up
  have HU := Lib.hid U
  have hz := hP7.z
  clear U
  go_wp2
  go_step3
  change 0 = 0 ∧ GivesUp w _ _
  exact ⟨rfl, ((HU.out.set (by omega) _).set (by omega) _).up (by constructor)⟩
end Go.Proofs.YtmmghppjhmdikaaGreatDoor
