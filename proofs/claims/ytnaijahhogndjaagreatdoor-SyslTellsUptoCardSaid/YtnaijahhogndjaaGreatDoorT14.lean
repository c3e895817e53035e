/- The texts Parse, Elements, one behind the other. -/
import Derived.Test.YtnaijahhogndjaaGreatDoorT11
import Derived.Test.YtnaijahhogndjaaGreatDoorT13
import Derived.RegionTactic
import Derived.BigRegion
import Derived.ScopeJumps
import Derived.Laws.EntriesVeiled
import Derived.WalkMore
import Derived.Deep.RegionHeld3
import Derived.Shelf.Strings.Prefix
/- What sysl.Parse answers where all fits. Conditions: the tables stand; sizes. -/
namespace Go.Proofs.YtnaijahhogndjaaGreatDoor
open Go.ChangeShapes Go.WideShapes Go.ChangeAt Go.RowKit

theorem until_d {sepl : List UInt8} {sep : ByteArray} {w : World} {o0 o1 : Obj} {r : List UInt8} {f : Bool} {p r' : List UInt8} {f' : Bool} (h : untilL sepl (r, f) = (p, r', f')) (hsep : sep.data.toList = sepl) (hm : Max w) (hr : r.length ≤ 16777216) :
    Calls Tryz.prog 53 #[.string sep, .pointer (some ⟨w.heap.size + 1 + 1, 0, none⟩), .pointer (some ⟨w.heap.size + 1 + 1 + 1, 0, none⟩)] (PW w o0 o1 r f).drew
      fun e w' => e = .returned (.string (bytes p)) ∧ ∃ c', w' = (PW w o0 o1 r' f').drewN c' := until_t (c := 1) h hsep hm hr
abbrev E0 : Obj := .cells #[.int .i64 0, .int .i64 0, .bool false, .int .i64 0, .string ⟨#[]⟩, .string ⟨#[]⟩, .string ⟨#[]⟩, .string ⟨#[]⟩, .slice none 0 0, .string ⟨#[]⟩] 24
theorem until_h {sepl : List UInt8} {sep : ByteArray} {w W : World} {o0 o1 : Obj} {r : List UInt8} {f : Bool} {p r' : List UInt8} {f' : Bool} (hW : ∃ c, W = (PW w o0 o1 r f).drewN c) (h : untilL sepl (r, f) = (p, r', f')) (hsep : sep.data.toList = sepl) (hm : Max w) (hr : r.length ≤ 16777216) :
    Calls Tryz.prog 53 #[.string sep, .pointer (some ⟨w.heap.size + 1 + 1, 0, none⟩), .pointer (some ⟨w.heap.size + 1 + 1 + 1, 0, none⟩)] W
      fun e w' => e = .returned (.string (bytes p)) ∧ ∃ c', w' = (PW w o0 o1 r' f').drewN c' := by
  obtain ⟨c, rfl⟩ := hW
  exact until_t h hsep hm hr
theorem pw_fun {w W : World} {o0 o1 : Obj} {r : List UInt8} {f : Bool} (hW : ∃ c, W = (PW w o0 o1 r f).drewN c) :
    W.cell? ⟨w.heap.size + 1 + 1 + 1 + 1, 0, none⟩ = some (.func (.func 53) #[] #[.pointer (some ⟨w.heap.size + 1 + 1, 0, none⟩), .pointer (some ⟨w.heap.size + 1 + 1 + 1, 0, none⟩)]) := by
  obtain ⟨c, rfl⟩ := hW
  simp [go_sem]
theorem until_len (sep : List UInt8) (s : St) : (untilL sep s).2.1.length ≤ s.1.length := by
  unfold untilL Lib.cut
  split <;> simp
theorem untilp_len (sep : List UInt8) (s : St) : (untilL sep s).1.length ≤ s.1.length := by
  unfold untilL Lib.cut
  split
  · simp; omega
  · simp
theorem toldp_len {r : List UInt8} {f : Bool} {p r' : List UInt8} {f' : Bool} (h : toldL (r, f) = (p, r', f')) : p.length ≤ r.length := by
  have e : p = (toldL (r, f)).1 := by rw [h]
  rw [e]
  unfold toldL
  simp only
  split
  · simp
  · exact untilp_len [32] (r, f)
theorem told_len (s : St) : (toldL s).2.1.length ≤ s.1.length := until_len [32] s
/-- Two worlds hold the same from a block on, as far as the first one reaches. -/
def Agree (lo : Nat) (W3 W : World) : Prop := W3.heap.size ≤ W.heap.size ∧ ∀ b o, lo ≤ b → b < W3.heap.size → W.cell? ⟨b, o, none⟩ = W3.cell? ⟨b, o, none⟩
theorem Agree.refl (lo : Nat) (W : World) : Agree lo W W := ⟨Nat.le_refl _, fun _ _ _ _ => rfl⟩
theorem Agree.set {lo : Nat} {W3 W : World} (h : Agree lo W3 W) {b0 o0 : Nat} (hb : b0 < lo) (v : Value) : Agree lo W3 (W.setCell ⟨b0, o0, none⟩ v) :=
  ⟨by have := h.1; simpa using this, fun b o h1 h2 => by
    have hne : ¬ b = b0 := by omega
    rw [← h.2 b o h1 h2]
    simp [go_sem]⟩
theorem Agree.below {lo : Nat} {W3 W W' : World} (h : Agree lo W3 W) (hb : Below W.heap.size W W') : Agree lo W3 W' :=
  ⟨Nat.le_trans h.1 hb.size, fun b o h1 h2 => ((bcell hb).1 b o (Nat.lt_of_lt_of_le h2 h.1)).trans (h.2 b o h1 h2)⟩
/-- What is answered where all fits: the message, as it lies in the world behind the call. -/
def GoodAns (gr fr : Int) (td : Bool) (at' : Int) (h a p i tx : List UInt8) (es : List Elm) (w : World) (e : Ending) (w' : World) : Prop :=
  ∃ la lc, e = .returned (.tuple #[.agg #[.int .i64 gr, .int .i64 fr, .bool td, .int .i64 at', .string (bytes h), .string (bytes a), .string (bytes p), .string (bytes i), .slice la es.length lc, .string (bytes tx)], .int .i64 0]) ∧ ElmsAt w' (.slice la es.length lc) es ∧ Below w.heap.size w w'
set_option maxHeartbeats 4000000 in
set_option maxRecDepth 100000 in
theorem parse_good (l r1 r2 r3 r4 r5 r6 r7 r8 r9 dec date h a p i tx : List UInt8) (fr gr at' : Int) (td : Bool) (es : List Elm) (w : World) (hS : Std w) (hm : Max w) (hl : l.length ≤ 16777216)
    (H1 : untilL [60] (l, true) = ([], r1, true)) (H2 : untilL [62] (r1, true) = (dec, r2, true)) (H3 : untilL [32] (r2, true) = ([49], r3, true)) (K1 : toldL (r3, true) = (date, r4, true))
    (K2 : toldL (r4, true) = (h, r5, true)) (K3 : toldL (r5, true) = (a, r6, true)) (K4 : toldL (r6, true) = (p, r7, true)) (K5 : toldL (r7, true) = (i, r8, true))
    (CO : ∀ W, Std W → Max W → Calls Tryz.prog 56 #[.string (bytes dec)] W fun e w' => e = .returned (.tuple #[.int .i64 fr, .int .i64 gr, .bool true]) ∧ Below W.heap.size W w')
    (CM : ∀ W, Std W → Max W → Calls Tryz.prog 57 #[.string (bytes date)] W fun e w' => e = .returned (.tuple #[.bool td, .int .i64 at', .bool true]) ∧ Below W.heap.size W w')
    (CE : ∀ W, Std W → Max W → Calls Tryz.prog 58 #[.string (bytes r8)] W fun e w' => ∃ la lc, e = .returned (.tuple #[.slice la es.length lc, .string (bytes r9), .bool true]) ∧ (∀ V, Agree W.heap.size w' V → ElmsAt V (.slice la es.length lc) es) ∧ Below W.heap.size W w')
    (CB : ∀ W, Std W → Max W → Calls Tryz.prog 59 #[.string (bytes r9)] W fun e w' => e = .returned (.tuple #[.string (bytes tx), .bool true]) ∧ Below W.heap.size W w')
    (hfit : ElmsFit es) (htx : tx.length ≤ 16777216) (hR : rightE ⟨gr, fr, td, at', bytes h, bytes a, bytes p, bytes i, es, bytes tx⟩ = 0) :
    Calls Tryz.prog 23 #[.string (bytes l)] w (GoodAns gr fr td at' h a p i tx es w) := by
  have l1 : r1.length ≤ 16777216 := by have := until_len [60] (l, true); rw [H1] at this; exact Nat.le_trans this hl
  have l2 : r2.length ≤ 16777216 := by have := until_len [62] (r1, true); rw [H2] at this; exact Nat.le_trans this l1
  have l3 : r3.length ≤ 16777216 := by have := until_len [32] (r2, true); rw [H3] at this; exact Nat.le_trans this l2
  have l4 : r4.length ≤ 16777216 := by have := told_len (r3, true); rw [K1] at this; exact Nat.le_trans this l3
  have l5 : r5.length ≤ 16777216 := by have := told_len (r4, true); rw [K2] at this; exact Nat.le_trans this l4
  have l6 : r6.length ≤ 16777216 := by have := told_len (r5, true); rw [K3] at this; exact Nat.le_trans this l5
  have l7 : r7.length ≤ 16777216 := by have := told_len (r6, true); rw [K4] at this; exact Nat.le_trans this l6
  have J1 := Lib.hid H1
  have J2 := Lib.hid H2
  have J3 := Lib.hid H3
  have J4 := Lib.hid K1
  have J5 := Lib.hid K2
  have J6 := Lib.hid K3
  have J7 := Lib.hid K4
  have J8 := Lib.hid K5
  have CO' := Lib.hid CO
  have CM' := Lib.hid CM
  have CE' := Lib.hid CE
  have CB' := Lib.hid CB
  have HRR := Lib.hid hR
  have HF := Lib.hid hfit
  clear H1 H2 H3 K1 K2 K3 K4 K5 CO CM CE CB hR hfit
  have hsd : ∀ (X : World) (n : Nat) (p : Addr) (v : Value), (X.drewN n).setCell p v = (X.setCell p v).drewN n := fun _ _ _ _ => rfl
  have q1 : (bytes []).toList.isEmpty = true := by rw [Lib.toList_data]; rfl
  have q2 : ((bytes [49]).toList == [49]) = true := by rw [Lib.toList_data]; rfl
  go_enter Tryz.func23, Tryz.ntmps23
  go_wp2_with fail
  refine wp_scope_jumps 0 (fun _ _ => False) (fun _ _ => 0) rfl ?first ?pass
  case pass => exact fun _ _ h => h.elim
  go_wp2_with fail
  have w0 : ∃ c, (PW w E0 E0 l true).drew = (PW w E0 E0 l true).drewN c := ⟨1, rfl⟩
  go_region_held3 (fun w' => w'.cell? ⟨w.heap.size + 1 + 1 + 1 + 1, 0, none⟩ = some (.func (.func 53) #[] #[.pointer (some ⟨w.heap.size + 1 + 1, 0, none⟩), .pointer (some ⟨w.heap.size + 1 + 1 + 1, 0, none⟩)]))
    (first
      | assumption
      | exact pw_fun (by assumption)
      | exact pw_fun w0)
    (first
      | (go_at_call 53; (with_reducible refine (until_h (sep := ⟨#[60]⟩) w0 J1.out rfl hm hl).mono ?_); rintro e w' ⟨rfl, hx⟩)
      | (go_at_call 53; (with_reducible refine (until_h (sep := ⟨#[62]⟩) (by assumption) J2.out rfl hm l1).mono ?_); rintro e w' ⟨rfl, hx⟩)
      | (go_at_call 53; (with_reducible refine (until_h (sep := ⟨#[32]⟩) (by assumption) J3.out rfl hm l2).mono ?_); rintro e w' ⟨rfl, hx⟩))
  rename World => w3
  obtain ⟨c, hc⟩ : ∃ c, w3 = (PW w E0 E0 r3 true).drewN c := by assumption
  subst hc
  rename_i hHeld
  clear hHeld w0
  go_wp2_with fail
  refine (told_t J4.out hm l3).mono ?_
  rintro e w' ⟨rfl, c', rfl⟩
  go_wp2_with fail
  refine (told_t J5.out hm l4).mono ?_
  rintro e w' ⟨rfl, c', rfl⟩
  go_wp2_with fail
  refine (told_t J6.out hm l5).mono ?_
  rintro e w' ⟨rfl, c', rfl⟩
  go_wp2_with fail
  refine (told_t J7.out hm l6).mono ?_
  rintro e w' ⟨rfl, c', rfl⟩
  go_wp2_with fail
  refine (told_t J8.out hm l7).mono ?_
  rintro e w' ⟨rfl, c', rfl⟩
  go_wp2_with fail
  obtain ⟨W0, hW0⟩ : ∃ W0, ((((((w.alloc E0).alloc (.cells #[.int .i64 0, .int .i64 0, .bool false, .int .i64 0, .string (bytes h), .string (bytes a), .string (bytes p), .string (bytes i), .slice none 0 0, .string ⟨#[]⟩] 24)).alloc (.cells #[.string (bytes r8)] 9)).alloc (.cells #[.bool true] 4)).alloc (.cells #[.func (.func 53) #[] #[.pointer (some ⟨w.heap.size + 2, 0, none⟩), .pointer (some ⟨w.heap.size + 3, 0, none⟩)]] 37)).drewN c') = W0 := ⟨_, rfl⟩
  have hP0 : PAt w W0 (.int .i64 0) (.int .i64 0) (.bool false) (.int .i64 0) (.string (bytes h)) (.string (bytes a)) (.string (bytes p)) (.string (bytes i)) (.slice none 0 0) (.string ⟨#[]⟩) r8 := by
    rw [← hW0]
    constructor
    · simp [go_sem]
    · simp [go_sem]
    · simp [go_sem]
    · simp [go_sem]
    · simp [go_sem]
    · simp [go_sem]
    · simp [go_sem]
    · simp [go_sem]
    · simp [go_sem]
    · simp [go_sem]
    · simp [go_sem]
    · simp [go_sem]
    · simp <;> omega
    · intro o; simp [go_sem]
    · intro o; simp [go_sem]
    · intro o; simp [go_sem]
    · intro o; simp [go_sem]
    · exact (((((((Below.refl _ _).alloc (Nat.le_refl _) _).alloc (by simp) _).alloc (by simp <;> omega) _).alloc (by simp <;> omega) _).alloc (by simp <;> omega) _)).trans ((drewN_below _ _).mono (by simp <;> omega))
    · intro k hk
      match k, hk with
      | 0, _ => exact ⟨.int .i64 0, by simp [go_sem]⟩
      | 1, _ => exact ⟨.int .i64 0, by simp [go_sem]⟩
      | 2, _ => exact ⟨.bool false, by simp [go_sem]⟩
      | 3, _ => exact ⟨.int .i64 0, by simp [go_sem]⟩
      | 4, _ => exact ⟨.string ⟨#[]⟩, by simp [go_sem]⟩
      | 5, _ => exact ⟨.string ⟨#[]⟩, by simp [go_sem]⟩
      | 6, _ => exact ⟨.string ⟨#[]⟩, by simp [go_sem]⟩
      | 7, _ => exact ⟨.string ⟨#[]⟩, by simp [go_sem]⟩
      | 8, _ => exact ⟨.slice none 0 0, by simp [go_sem]⟩
      | 9, _ => exact ⟨.string ⟨#[]⟩, by simp [go_sem]⟩
  rw [hW0]
  clear hW0
  refine (CO'.out _ (hS.below hP0.b) (hm.below hP0.b)).mono ?_
  rintro e W1 ⟨rfl, hb1⟩
  have hP1 := hP0.below hb1
  clear hb1 hP0
  have k0 := hP1.k0
  have k1 := hP1.k1
  have k2 := hP1.k2
  have k3 := hP1.k3
  have k4 := hP1.k4
  have k5 := hP1.k5
  have k6 := hP1.k6
  have k7 := hP1.k7
  have k8 := hP1.k8
  have k9 := hP1.k9
  have kr : W1.cell? ⟨w.heap.size + 1 + 1, 0, none⟩ = some (.string (bytes r8)) := hP1.kr
  have kf : W1.cell? ⟨w.heap.size + 1 + 1 + 1, 0, none⟩ = some (.bool true) := hP1.kf
  have f0 := hP1.f0
  have f1 := hP1.f1
  have f2 : ∀ o, W1.frozen? ⟨w.heap.size + 1 + 1, o, none⟩ = false := hP1.f2
  have f3 : ∀ o, W1.frozen? ⟨w.heap.size + 1 + 1 + 1, o, none⟩ = false := hP1.f3
  go_wp2_with fail
  have hP2 := ((hP1.set1 (.int .i64 fr)).set0 (.int .i64 gr)).setf
  clear k0 k1 k2 k3 k4 k5 k6 k7 k8 k9 kr kf f0 f1 f2 f3
  refine (CM'.out _ (hS.below hP2.b) (hm.below hP2.b)).mono ?_
  rintro e W2 ⟨rfl, hb2⟩
  have hP3 := hP2.below hb2
  clear hb2 hP2 hP1
  have k0 := hP3.k0
  have k1 := hP3.k1
  have k2 := hP3.k2
  have k3 := hP3.k3
  have k4 := hP3.k4
  have k5 := hP3.k5
  have k6 := hP3.k6
  have k7 := hP3.k7
  have k8 := hP3.k8
  have k9 := hP3.k9
  have kr : W2.cell? ⟨w.heap.size + 1 + 1, 0, none⟩ = some (.string (bytes r8)) := hP3.kr
  have kf : W2.cell? ⟨w.heap.size + 1 + 1 + 1, 0, none⟩ = some (.bool true) := hP3.kf
  have f0 := hP3.f0
  have f1 := hP3.f1
  have f2 : ∀ o, W2.frozen? ⟨w.heap.size + 1 + 1, o, none⟩ = false := hP3.f2
  have f3 : ∀ o, W2.frozen? ⟨w.heap.size + 1 + 1 + 1, o, none⟩ = false := hP3.f3
  go_wp2_with fail
  have hP4 := ((hP3.set2 (.bool td)).set3 (.int .i64 at')).setf
  clear k0 k1 k2 k3 k4 k5 k6 k7 k8 k9 kr kf f0 f1 f2 f3
  have hlo := hP4.z
  refine (CE'.out _ (hS.below hP4.b) (hm.below hP4.b)).mono ?_
  rintro e W3 ⟨la, lc, rfl, hag, hb3⟩
  have hP5 := hP4.below hb3
  clear hb3 hP4 hP3
  have HAG := Lib.hid hag
  clear hag
  have k0 := hP5.k0
  have k1 := hP5.k1
  have k2 := hP5.k2
  have k3 := hP5.k3
  have k4 := hP5.k4
  have k5 := hP5.k5
  have k6 := hP5.k6
  have k7 := hP5.k7
  have k8 := hP5.k8
  have k9 := hP5.k9
  have kr : W3.cell? ⟨w.heap.size + 1 + 1, 0, none⟩ = some (.string (bytes r8)) := hP5.kr
  have kf : W3.cell? ⟨w.heap.size + 1 + 1 + 1, 0, none⟩ = some (.bool true) := hP5.kf
  have f0 := hP5.f0
  have f1 := hP5.f1
  have f2 : ∀ o, W3.frozen? ⟨w.heap.size + 1 + 1, o, none⟩ = false := hP5.f2
  have f3 : ∀ o, W3.frozen? ⟨w.heap.size + 1 + 1 + 1, o, none⟩ = false := hP5.f3
  go_wp2_with fail
  have hP6 := ((hP5.set8 (.slice la es.length lc)).setr r9).setf
  clear k0 k1 k2 k3 k4 k5 k6 k7 k8 k9 kr kf f0 f1 f2 f3
  obtain ⟨LO, hLO⟩ : ∃ LO, (((W2.setCell ⟨w.heap.size + 1, 2, none⟩ (.bool td)).setCell ⟨w.heap.size + 1, 3, none⟩ (.int .i64 at')).setCell ⟨w.heap.size + 1 + 1 + 1, 0, none⟩ (.bool true)).heap.size = LO := ⟨_, rfl⟩
  rw [hLO] at HAG hlo
  clear hLO
  have ag1 := (((Agree.refl LO W3).set (b0 := w.heap.size + 1) (o0 := 8) (by omega) (.slice la es.length lc)).set (b0 := w.heap.size + 1 + 1) (o0 := 0) (by omega) (.string (bytes r9))).set (b0 := w.heap.size + 1 + 1 + 1) (o0 := 0) (by omega) (.bool true)
  refine (CB'.out _ (hS.below hP6.b) (hm.below hP6.b)).mono ?_
  rintro e W4 ⟨rfl, hb4⟩
  have hP7 := hP6.below hb4
  have ag2 := ag1.below hb4
  clear hP6 hP5 ag1
  have k0 := hP7.k0
  have k1 := hP7.k1
  have k2 := hP7.k2
  have k3 := hP7.k3
  have k4 := hP7.k4
  have k5 := hP7.k5
  have k6 := hP7.k6
  have k7 := hP7.k7
  have k8 := hP7.k8
  have k9 := hP7.k9
  have kr : W4.cell? ⟨w.heap.size + 1 + 1, 0, none⟩ = some (.string (bytes r9)) := hP7.kr
  have kf : W4.cell? ⟨w.heap.size + 1 + 1 + 1, 0, none⟩ = some (.bool true) := hP7.kf
  have f0 := hP7.f0
  have f1 := hP7.f1
  have f2 : ∀ o, W4.frozen? ⟨w.heap.size + 1 + 1, o, none⟩ = false := hP7.f2
  have f3 : ∀ o, W4.frozen? ⟨w.heap.size + 1 + 1 + 1, o, none⟩ = false := hP7.f3
  go_wp2_with fail
  have hP8 := (hP7.set9 (.string (bytes tx))).setf
  clear k0 k1 k2 k3 k4 k5 k6 k7 k8 k9 kr kf f0 f1 f2 f3
  have ag3 := (ag2.set (b0 := w.heap.size + 1) (o0 := 9) (by omega) (.string (bytes tx))).set (b0 := w.heap.size + 1 + 1 + 1) (o0 := 0) (by omega) (.bool true)
  have hEl := HAG.out _ ag3
  have s1 : h.length ≤ 16777216 := Nat.le_trans (toldp_len J5.out) l4
  have s2 : a.length ≤ 16777216 := Nat.le_trans (toldp_len J6.out) l5
  have s3 : p.length ≤ 16777216 := Nat.le_trans (toldp_len J7.out) l6
  have s4 : i.length ≤ 16777216 := Nat.le_trans (toldp_len J8.out) l7
  have hRt := right_any ⟨gr, fr, td, at', bytes h, bytes a, bytes p, bytes i, es, bytes tx⟩ (.slice la es.length lc) _ (hS.below hP8.b) ⟨hEl, HF.out, by rw [bytes_size]; exact Nat.le_trans s1 (by decide), by rw [bytes_size]; exact Nat.le_trans s2 (by decide), by rw [bytes_size]; exact Nat.le_trans s3 (by decide), by rw [bytes_size]; exact Nat.le_trans s4 (by decide), by rw [bytes_size]; exact Nat.le_trans htx (by decide)⟩
  rw [HRR.out] at hRt
  clear s1 s2 s3 s4 hEl
  refine hRt.mono ?_
  rintro e W5 ⟨rfl, hb5⟩
  have hP9 := hP8.below hb5
  have AG := Lib.hid (ag3.below hb5)
  clear hRt hb5 hP8 hP7 ag3 ag2
  have k0 := hP9.k0
  have k1 := hP9.k1
  have k2 := hP9.k2
  have k3 := hP9.k3
  have k4 := hP9.k4
  have k5 := hP9.k5
  have k6 := hP9.k6
  have k7 := hP9.k7
  have k8 := hP9.k8
  have k9 := hP9.k9
  have kr : W5.cell? ⟨w.heap.size + 1 + 1, 0, none⟩ = some (.string (bytes r9)) := hP9.kr
  have kf : W5.cell? ⟨w.heap.size + 1 + 1 + 1, 0, none⟩ = some (.bool true) := hP9.kf
  have f0 := hP9.f0
  have f1 := hP9.f1
  have f2 : ∀ o, W5.frozen? ⟨w.heap.size + 1 + 1, o, none⟩ = false := hP9.f2
  have f3 : ∀ o, W5.frozen? ⟨w.heap.size + 1 + 1 + 1, o, none⟩ = false := hP9.f3
  have BB := hP9.b
  obtain ⟨v0, e0⟩ := hP9.e 0 (by decide)
  obtain ⟨v1, e1⟩ := hP9.e 1 (by decide)
  obtain ⟨v2, e2⟩ := hP9.e 2 (by decide)
  obtain ⟨v3, e3⟩ := hP9.e 3 (by decide)
  obtain ⟨v4, e4⟩ := hP9.e 4 (by decide)
  obtain ⟨v5, e5⟩ := hP9.e 5 (by decide)
  obtain ⟨v6, e6⟩ := hP9.e 6 (by decide)
  obtain ⟨v7, e7⟩ := hP9.e 7 (by decide)
  obtain ⟨v8, e8⟩ := hP9.e 8 (by decide)
  obtain ⟨v9, e9⟩ := hP9.e 9 (by decide)
  go_wp2
  change bodyPost Tryz.prog Tryz.f23 (GoodAns gr fr td at' h a p i tx es w) Exit.ret _ _
  refine bodyPost_ret (v := .tuple #[.agg #[.int .i64 gr, .int .i64 fr, .bool td, .int .i64 at', .string (bytes h), .string (bytes a), .string (bytes p), .string (bytes i), .slice la es.length lc, .string (bytes tx)], .int .i64 0])
    (by simp [results, Tryz.results23, go_sem, e0, e1, e2, e3, e4, e5, e6, e7, e8, e9]) rfl ⟨la, lc, rfl, HAG.out _ ?_, ?_⟩
  · exact ((((((((((AG.out).set (b0 := w.heap.size) (o0 := 0) (by omega) _).set (b0 := w.heap.size) (o0 := 1) (by omega) _).set (b0 := w.heap.size) (o0 := 2) (by omega) _).set (b0 := w.heap.size) (o0 := 3) (by omega) _).set (b0 := w.heap.size) (o0 := 4) (by omega) _).set (b0 := w.heap.size) (o0 := 5) (by omega) _).set (b0 := w.heap.size) (o0 := 6) (by omega) _).set (b0 := w.heap.size) (o0 := 7) (by omega) _).set (b0 := w.heap.size) (o0 := 8) (by omega) _).set (b0 := w.heap.size) (o0 := 9) (by omega) _
  · exact ((((((((((BB).setCell (p := ⟨w.heap.size, 0, none⟩) (Nat.le_refl _) _).setCell (p := ⟨w.heap.size, 1, none⟩) (Nat.le_refl _) _).setCell (p := ⟨w.heap.size, 2, none⟩) (Nat.le_refl _) _).setCell (p := ⟨w.heap.size, 3, none⟩) (Nat.le_refl _) _).setCell (p := ⟨w.heap.size, 4, none⟩) (Nat.le_refl _) _).setCell (p := ⟨w.heap.size, 5, none⟩) (Nat.le_refl _) _).setCell (p := ⟨w.heap.size, 6, none⟩) (Nat.le_refl _) _).setCell (p := ⟨w.heap.size, 7, none⟩) (Nat.le_refl _) _).setCell (p := ⟨w.heap.size, 8, none⟩) (Nat.le_refl _) _).setCell (p := ⟨w.heap.size, 9, none⟩) (Nat.le_refl _) _
end Go.Proofs.YtnaijahhogndjaaGreatDoor
/- What sysl.elements answers of the text of a list of elements that may be. -/
namespace Go.Proofs.YtnaijahhogndjaaGreatDoor
open Go.ChangeShapes Go.WideShapes Go.ChangeAt Go.RowKit

def lays99_ren : Go.Shelf.Ren := ⟨fun | 99 => 86 | 206 => 116 | n => n, fun | 9 => 9 | 4 => 4 | 3 => 3 | n => n, fun | n => n⟩
theorem lays99 : Go.Proofs.Lays.n99 Tryz.prog lays99_ren := {
  mixed := by kernel_rfl
  f99 := Tryz.func86.trans (congrArg some (by kernel_rfl))
  f206 := Tryz.func116.trans (congrArg some (by kernel_rfl))
  t3 := Tryz.underlying3
  a3 := Tryz.isAgg3
  z3 := Tryz.sizeOf3
  v3 := Tryz.zeroValue3
  t4 := Tryz.underlying4
  a4 := Tryz.isAgg4
  z4 := Tryz.sizeOf4
  v4 := Tryz.zeroValue4
  t9 := Tryz.underlying9
  a9 := Tryz.isAgg9
  z9 := Tryz.sizeOf9
  v9 := Tryz.zeroValue9 }
theorem prefix_is (sep : ByteArray) (r : List UInt8) (f : Bool) (h : Lib.hasPrefix r sep.data.toList = f) (w : World) :
    Calls Tryz.prog 86 #[.string (bytes r), .string sep] w fun e w' => e = .returned (.bool f) ∧ w' = w := by
  have := Go.Proofs.Any.strings_HasPrefix lays99 (bytes r) sep w
  rw [bytes_list, h] at this
  exact this

theorem info52 : (Tryz.prog.info? 52).map (fun i => (i.zero, i.size, i.bytes)) = some (some (.agg #[.string ⟨#[]⟩, .slice none 0 0]), 2, 40) := by kernel_rfl
theorem info52_of : ∃ i, Tryz.prog.info? 52 = some i ∧ i.zero = some (.agg #[.string ⟨#[]⟩, .slice none 0 0]) ∧ i.size = 2 ∧ i.bytes = 40 := by
  have h := info52
  cases hi : Tryz.prog.info? 52 with
  | none => rw [hi] at h; cases h
  | some j => rw [hi] at h; simp only [Option.map_some, Option.some.injEq, Prod.mk.injEq] at h; exact ⟨j, rfl, h.1, h.2.1, h.2.2⟩
def elmsT (es : List Elm) : List UInt8 := es.flatMap elmT
theorem elms_step {es : List Elm} {k : Nat} {e : Elm} (h : es[k]? = some e) (t : List UInt8) : elmsT (es.drop k) ++ t = elmT e ++ (elmsT (es.drop (k + 1)) ++ t) := by
  obtain ⟨hk, hx⟩ := List.getElem?_eq_some_iff.1 h
  rw [List.drop_eq_getElem_cons hk, hx]
  simp [elmsT]
theorem elms_end {es : List Elm} {k : Nat} (h : es.length ≤ k) (t : List UInt8) : elmsT (es.drop k) ++ t = t := by
  rw [List.drop_of_length_le h]; rfl
theorem elm_head (e : Elm) (t : List UInt8) : ∃ r, elmT e ++ t = 91 :: r := ⟨_, rfl⟩
/-- An element's row, as it lies. -/
abbrev Row := ByteArray × Value
def ecells (rows : List Row) : List Value := rows.flatMap fun r => [.string r.1, r.2]
theorem ecells_push (rows : List Row) (r : Row) : ecells (rows ++ [r]) = ecells rows ++ [.string r.1, r.2] := by simp [ecells]
theorem ecells_at : ∀ (rows : List Row) (j : Nat) (r : Row), rows[j]? = some r → (ecells rows)[2 * j]? = some (.string r.1) ∧ (ecells rows)[2 * j + 1]? = some r.2
  | [], j, p, h => by simp at h
  | q :: ps, 0, p, h => by cases h; exact ⟨rfl, rfl⟩
  | q :: ps, j + 1, p, h => by
    have := ecells_at ps j p (by simpa using h)
    rw [show 2 * (j + 1) = 2 * j + 2 by omega, show 2 * j + 2 + 1 = (2 * j + 1) + 2 by omega]
    exact this
/-- What elements' worlds hold: the row of the first elements, and their own rows. -/
structure LAt (w W : World) (lv : Value) (es : List Elm) (rows : List Row) : Prop where
  b : Below w.heap.size w W
  n : rows.length = es.length
  own : W.ownsRow w.heap.size 52 2 lv es.length (ecells rows)
  row : ∀ (j : Nat) (e : Elm), es[j]? = some e → ∃ v, rows[j]? = some (e.1, v) ∧ W.ownsRow w.heap.size 54 2 v e.2.length (pcells e.2)
theorem row_ne {W : World} {b1 b2 : Nat} {e1 e2 : TypeId} {s1 s2 n1 n2 : Nat} {v1 v2 : Value} {x1 x2 : List Value} (hne : e1 ≠ e2) (h1 : W.ownsRow b1 e1 s1 v1 n1 x1) (h2 : W.ownsRow b2 e2 s2 v2 n2 x2) : v1.ownBlock = none ∨ v1.ownBlock ≠ v2.ownBlock := by
  rcases h1.2 with ⟨rfl, _⟩ | ⟨g, cap, cur, rfl, _, hg, _⟩
  · exact .inl rfl
  · rcases h2.2 with ⟨rfl, _⟩ | ⟨g2, cap2, cur2, rfl, _, hg2, _⟩
    · exact .inr (by simp [Value.ownBlock])
    · refine .inr fun he => hne ?_
      have hgg : g = g2 := by simpa [Value.ownBlock] using he
      rw [hgg, hg2] at hg
      cases hg
      rfl
theorem row_mono {W : World} {b b' : Nat} {e : TypeId} {s n : Nat} {v : Value} {x : List Value} (h : W.ownsRow b e s v n x) (hb : b' ≤ b) : W.ownsRow b' e s v n x := by
  refine ⟨h.1, ?_⟩
  rcases h.2 with hn | ⟨g, cap, cur, rfl, h1, rest⟩
  · exact .inl hn
  · exact .inr ⟨g, cap, cur, rfl, Nat.le_trans hb h1, rest⟩
variable {w W : World} {lv : Value} {es : List Elm} {rows : List Row}
theorem LAt.start (w : World) : LAt w w (.slice none 0 0) [] [] := ⟨Below.refl _ _, rfl, World.ownsRow_nil _ _ _ _, fun j e h => by simp at h⟩
theorem LAt.below {W' : World} (h : LAt w W lv es rows) (hb : Below W.heap.size W W') : LAt w W' lv es rows :=
  ⟨h.b.trans (hb.mono h.b.size), h.n, kept_below h.own hb, fun j e he => by
    obtain ⟨v, h1, h2⟩ := h.row j e he
    exact ⟨v, h1, kept_below h2 hb⟩⟩
theorem LAt.push {W' : World} {v' v : Value} {e : Elm} (h : LAt w W lv es rows) (hv : W.ownsRow w.heap.size 54 2 v e.2.length (pcells e.2)) (hg : W.grownBy W' lv.ownBlock) (hown : W'.ownsRow w.heap.size 52 2 v' (es.length + 1) (ecells rows ++ [.string e.1, v])) :
    LAt w W' v' (es ++ [e]) (rows ++ [(e.1, v)]) where
  b := h.b.grown hg h.b.size fun k hk => (h.own.lt k hk).1
  n := by rw [List.length_append, List.length_append, h.n]; rfl
  own := by rw [ecells_push, List.length_append]; exact hown
  row := fun j x hx => by
    rcases Nat.lt_or_ge j es.length with hl | hl
    · rw [List.getElem?_append_left hl] at hx
      obtain ⟨u, h1, h2⟩ := h.row j x hx
      exact ⟨u, by rw [List.getElem?_append_left (by rw [h.n]; exact hl)]; exact h1, h2.kept hg (row_ne (by decide) h2 h.own)⟩
    · rw [List.getElem?_append_right hl] at hx
      have hj : j - es.length = 0 := by
        rcases Nat.eq_zero_or_pos (j - es.length) with h0 | h0
        · exact h0
        · rw [List.getElem?_eq_none (by simp; omega)] at hx; cases hx
      rw [hj] at hx
      cases hx
      exact ⟨v, by rw [List.getElem?_append_right (by rw [h.n]; exact hl), h.n, hj]; rfl, hv.kept hg (row_ne (by decide) hv h.own)⟩
/-- The list, in every world that agrees from there on. -/
theorem LAt.elms {V : World} (h : LAt w W lv es rows) (ha : Agree w.heap.size W V) : ElmsAt V lv es := by
  obtain ⟨hs, hag⟩ := ha
  have hc := h.own
  rcases h.own.2 with ⟨hv, hn⟩ | ⟨g, cap, cur, hv, hb, hg, hcap, hmax, hsz, htake⟩
  · have he : es = [] := List.eq_nil_of_length_eq_zero hn
    subst he
    rw [hv]
    exact ElmsAt.nil V none 0
  · rw [hv] at hc ⊢
    have hlt : g < W.heap.size := (Array.getElem?_eq_some_iff.1 hg).1
    refine ⟨_, _, rfl, fun _ => ⟨g, 0, rfl, by omega, fun j e he => ?_⟩⟩
    obtain ⟨v, h1, h2⟩ := h.row j e he
    have hj := (List.getElem?_eq_some_iff.1 he).1
    have hat := ecells_at rows j _ h1
    refine ⟨v, ?_, ?_, ?_⟩
    · rw [Nat.zero_add, hag _ _ hb hlt, hc.cellAt _ (by omega)]; exact hat.1
    · rw [Nat.zero_add, hag _ _ hb hlt, hc.cellAt _ (by omega)]; exact hat.2
    · have h2' := h2
      rcases h2.2 with ⟨hv2, hn2⟩ | ⟨g2, cap2, cur2, hv2, hb2, hg2, _⟩
      · have he2 : e.2 = [] := List.eq_nil_of_length_eq_zero hn2
        rw [hv2, he2]
        exact PrmsAt.nil V none 0
      · rw [hv2] at h2' ⊢
        have hlt2 : g2 < W.heap.size := (Array.getElem?_eq_some_iff.1 hg2).1
        refine ⟨_, _, rfl, fun _ => ⟨g2, 0, rfl, by omega, fun i p hp => ?_⟩⟩
        have hi := (List.getElem?_eq_some_iff.1 hp).1
        have hpt := pcells_at e.2 i p hp
        rw [Nat.zero_add, hag _ _ hb2 hlt2, hag _ _ hb2 hlt2, h2'.cellAt _ (by omega), h2'.cellAt _ (by omega)]
        exact hpt
theorem LAt.shape (h : LAt w W lv es rows) : ∃ la lc, lv = .slice la es.length lc := by
  rcases h.own.2 with ⟨hv, hn⟩ | ⟨g, cap, cur, hv, _⟩
  · rw [hv, hn]; exact ⟨_, _, rfl⟩
  · exact ⟨_, _, hv⟩
/-- May an element be? (Not asked: its values.) -/
def elmGood (e : Elm) : Prop := nameB e.1.data.toList = true ∧ (∀ p ∈ e.2, nameB p.1.data.toList = true) ∧ e.2.length ≤ 64
def ElmsAns (w : World) (es : List Elm) (t : List UInt8) (x : Ending) (w' : World) : Prop :=
  ∃ la lc, x = .returned (.tuple #[.slice la es.length lc, .string (bytes t), .bool true]) ∧ (∀ V, Agree w.heap.size w' V → ElmsAt V (.slice la es.length lc) es) ∧ Below w.heap.size w w'
set_option maxHeartbeats 8000000 in
set_option maxRecDepth 100000 in
theorem elements_good (es : List Elm) (t : List UInt8) (w : World) (hes : es ≠ []) (h64 : es.length ≤ 64) (hg : ∀ e ∈ es, elmGood e) (ht : es.length < 64 → Lib.hasPrefix t [91] = false) (hl : (elmsT es ++ t).length ≤ 1073741824) :
    Calls Tryz.prog 58 #[.string (bytes (elmsT es ++ t))] w (ElmsAns w es t) := by
  obtain ⟨i0, hi, hz0, hz1, hz2⟩ := info52_of
  have HI := Lib.hid hi
  have HI0 := Lib.hid hz0
  have HI1 := Lib.hid hz1
  have HI2 := Lib.hid hz2
  clear hi hz0 hz1 hz2
  have hpos : 0 < es.length := List.length_pos_iff.2 hes
  obtain ⟨r0, hr0⟩ : ∃ r0, elmsT es ++ t = 91 :: r0 := by
    cases es with
    | nil => exact absurd rfl hes
    | cons e es => exact ⟨_, rfl⟩
  have HC : Hid (Calls Tryz.prog 85 #[.string (bytes (elmsT es ++ t)), .string ⟨#[45]⟩] w fun e w' => e = .returned (.tuple #[.string (bytes (elmsT es ++ t)), .bool false]) ∧ w' = w) := by
    have h := Tryz.strings_CutPrefix (bytes (elmsT es ++ t)) ⟨#[45]⟩ w
    have hm := pre_miss 45 91 r0 (by decide)
    rw [bytes_list, hr0, show (⟨#[45]⟩ : ByteArray).data.toList = [45] from rfl, hm.1, hm.2] at h
    rw [hr0]
    exact Lib.hid h
  have HG := Lib.hid hg
  have HT := Lib.hid ht
  have HL := Lib.hid hl
  clear hr0 hg ht hl hes
  go_enter Tryz.func58, Tryz.ntmps58
  go_wp2_with fail
  refine HC.out.mono ?_
  rintro x w' ⟨rfl, rfl⟩
  go_wp2
  go_loopg [2, 3] (es.length + 1) (fun g lv rv wr => ∃ (k : Nat) (rows : List Row), k ≤ es.length ∧ k + g = es.length + 1 ∧ rv = .string (bytes (elmsT (es.drop k) ++ t)) ∧ LAt w' wr lv (es.take k) rows)
  case atStart => exact ⟨0, [], Nat.zero_le _, by omega, rfl, LAt.start _⟩
  case round =>
    obtain ⟨k, rows, hk, hg, rfl, hE⟩ := hrel
    obtain ⟨la, lc, hlv⟩ := hE.shape
    have hkl : (es.take k).length = k := by rw [List.length_take]; omega
    rw [hkl] at hlv
    subst hlv
    by_cases hlt : k < es.length
    · obtain ⟨e, he⟩ : ∃ e, es[k]? = some e := ⟨es[k]'hlt, List.getElem?_eq_getElem _⟩
      obtain ⟨g1, g2, g3⟩ := HG.out e (List.mem_of_getElem? he)
      obtain ⟨R', hR'⟩ : ∃ R', elmsT (es.drop (k + 1)) ++ t = R' := ⟨_, rfl⟩
      have hstep := elms_step he t
      rw [hR'] at hstep
      have hlen : (elmT e ++ R').length ≤ 1073741824 := by
        have e1 : elmsT es = elmsT (es.take k) ++ elmsT (es.drop k) := by
          unfold elmsT; rw [← List.flatMap_append, List.take_append_drop]
        have e3 := HL.out
        rw [e1, List.append_assoc, hstep] at e3
        rw [List.length_append] at e3
        omega
      rw [hstep]
      have HP := Lib.hid (fun W => prefix_is ⟨#[91]⟩ (elmT e ++ R') true (by rfl) W)
      have HEl := Lib.hid (fun W => element_good e R' W g1 g2 g3 hlen)
      have HR := Lib.hid hR'
      have HEk := Lib.hid he
      clear g1 g2 g3 hR' hstep hlen he
      have hk64 : k < 64 := by omega
      go_wp2_with fail
      refine (HP.out _).mono ?_
      rintro x w1 ⟨rfl, rfl⟩
      go_wp2_with fail
      refine (HEl.out _).mono ?_
      rintro x w2 ⟨pa, pc, rfl, hB, hpo⟩
      have hsz0 := hE.b.size
      have h2 := hE.below hB
      clear hE
      have hb2 : Below w2.heap.size w2 ((w2.alloc (.cells #[.string e.1, .slice pa e.2.length pc] 52)).alloc (.cells #[.string e.1, .slice pa e.2.length pc] 52)) := ((Below.refl _ _).alloc (Nat.le_refl _) _).alloc (by simp) _
      have hsz := h2.b.size
      have h3 := h2.below hb2
      have hpo3 := kept_below (row_mono hpo (show w'.heap.size ≤ w1.heap.size + 2 by omega)) hb2
      have own3 := h3.own
      rw [hkl] at own3
      have hN := cells_new (w2.alloc (.cells #[.string e.1, .slice pa e.2.length pc] 52)) #[.string e.1, .slice pa e.2.length pc] 52
      rw [show (w2.alloc (.cells #[.string e.1, .slice pa e.2.length pc] 52)).heap.size = w2.heap.size + 1 by simp] at hN
      have HN := Lib.hid hN
      have O3 := Lib.hid own3
      have H3 := Lib.hid h3
      have HPO := Lib.hid hpo3
      clear hN own3 h3 hpo3 hpo h2 hb2 hB
      go_wp2_with (at_builtin; refine wpList_append_own _ rfl _ _ 22 rfl w'.heap.size 52 i0 (.agg #[.string ⟨#[]⟩, .slice none 0 0]) 2 40 Tryz.underlying22 HI.out HI0.out HI1.out HI2.out rfl (by decide) _ k _ rfl O3.out ⟨w2.heap.size + 1, 0, none⟩ 1 1 [.string e.1, .slice pa e.2.length pc] rfl rfl HN.out (by simp [Value.oneCell']) (by unfold maxLen; omega) (by omega) (by simp; omega) ?_; intro v1 w3 hown1 hgrow1 _; obtain ⟨a1, cap1, rfl⟩ := slice_of hown1)
      have hpush := H3.out.push HPO.out hgrow1 (by rw [hkl]; exact hown1)
      have htk : es.take (k + 1) = es.take k ++ [e] := by
        obtain ⟨hk2, hx⟩ := List.getElem?_eq_some_iff.1 HEk.out
        rw [List.take_succ_eq_append_getElem hk2, hx]
      rw [← htk] at hpush
      go_roundg (gk - 1)
      case measure => omega
      case rel => exact ⟨k + 1, _, by omega, by omega, by rw [HR.out], hpush⟩
    · obtain rfl : k = es.length := by omega
      have htk : es.take es.length = es := List.take_length
      rw [htk] at hE
      rw [elms_end (Nat.le_refl _)]
      by_cases hk64 : es.length < 64
      · have HP := Lib.hid (fun W => prefix_is ⟨#[91]⟩ t false (HT.out hk64) W)
        go_wp2_with fail
        refine (HP.out _).mono ?_
        rintro x w1 ⟨rfl, rfl⟩
        have HE := Lib.hid hE
        clear hE
        go_wp2
        refine bodyPost_ret (v := .tuple #[.slice la es.length lc, .string (bytes t), .bool true]) (by simp [results, Tryz.results58, go_sem]) rfl ⟨la, lc, rfl, fun V hV => HE.out.elms hV, HE.out.b⟩
      · have HE := Lib.hid hE
        clear hE
        go_wp2
        refine bodyPost_ret (v := .tuple #[.slice la es.length lc, .string (bytes t), .bool true]) (by simp [results, Tryz.results58, go_sem]) rfl ⟨la, lc, rfl, fun V hV => HE.out.elms hV, HE.out.b⟩
end Go.Proofs.YtnaijahhogndjaaGreatDoor
