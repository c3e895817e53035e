/- What the two closures of sysl.Parse answer that take what is next off a text, and what they leave of its two variables. -/
import Derived.Test.YtnaijahhogndjaaGreatDoorRight
namespace Go.Proofs.YtnaijahhogndjaaGreatDoor
open Go.ChangeShapes Go.WideShapes Go.ChangeAt Go.RowKit

/-- The world in which Parse works: its answer, its event, what is left, whether all fits, the closure that takes a part. -/
abbrev PW (w : World) (o0 o1 : Obj) (r : List UInt8) (f : Bool) : World :=
  ((((w.alloc o0).alloc o1).alloc (.cells #[.string (bytes r)] 9)).alloc (.cells #[.bool f] 4)).alloc (.cells #[.func (.func 53) #[] #[.pointer (some ⟨w.heap.size + 2, 0, none⟩), .pointer (some ⟨w.heap.size + 3, 0, none⟩)]] 37)
abbrev St := List UInt8 × Bool
def untilL (sep : List UInt8) (s : St) : List UInt8 × St := ((Lib.cut s.1 sep).1, (Lib.cut s.1 sep).2.1, s.2 && (Lib.cut s.1 sep).2.2)
def toldL (s : St) : List UInt8 × St :=
  (if (untilL [32] s).1 = [45] then [] else (untilL [32] s).1, (untilL [32] s).2.1, (untilL [32] s).2.2 && decide ((untilL [32] s).1 ≠ []))
/-- The library's variable MaxLen holds some int. -/
def Max (w : World) : Prop := 2 < w.heap.size ∧ ∃ m : Int, w.cell? ⟨2, 0, none⟩ = some (.int .i64 m)
theorem Max.below {w w' : World} (h : Max w) (hb : Below w.heap.size w w') : Max w' := by
  obtain ⟨h1, m, h2⟩ := h
  exact ⟨Nat.lt_of_lt_of_le h1 hb.size, m, (hb.cell (p := ⟨2, 0, none⟩) h1).trans h2⟩
theorem drewN_below (w : World) (n : Nat) : Below w.heap.size w (w.drewN n) := ⟨rfl, rfl, rfl, Nat.le_refl _, fun _ _ => rfl⟩
theorem pw_below (w : World) (o0 o1 : Obj) (r : List UInt8) (f : Bool) (c : Nat) : Below w.heap.size w ((PW w o0 o1 r f).drewN c) :=
  (((((((Below.refl _ _).alloc (Nat.le_refl _) _).alloc (by simp) _).alloc (by simp <;> omega) _).alloc (by simp <;> omega) _).alloc (by simp <;> omega) _)).trans ((drewN_below _ _).mono (by simp <;> omega))
set_option maxHeartbeats 1000000 in
set_option maxRecDepth 100000 in
theorem until_any (sep : ByteArray) (w : World) (o0 o1 : Obj) (r : List UInt8) (f : Bool) (c : Nat) (hm : Max w) (hr : r.length ≤ 16777216) :
    Calls Tryz.prog 53 #[.string sep, .pointer (some ⟨w.heap.size + 2, 0, none⟩), .pointer (some ⟨w.heap.size + 3, 0, none⟩)] ((PW w o0 o1 r f).drewN c)
      fun e w' => e = .returned (.string (bytes (untilL sep.data.toList (r, f)).1)) ∧ ∃ c', w' = (PW w o0 o1 (untilL sep.data.toList (r, f)).2.1 (untilL sep.data.toList (r, f)).2.2).drewN c' := by
  have hsd : ∀ (X : World) (n : Nat) (p : Addr) (v : Value), (X.drewN n).setCell p v = (X.setCell p v).drewN n := fun _ _ _ _ => rfl
  have hm2 := hm.below (pw_below w o0 o1 r f c)
  obtain ⟨_, m, hmc⟩ := hm2
  have HC := Lib.hid (Tryz.strings_Cut (bytes r) sep m ((PW w o0 o1 r f).drewN c) (by rw [bytes_size]; omega) hmc)
  unfold untilL
  simp only
  rw [bytes_list] at HC
  obtain ⟨p, hp⟩ : ∃ p, Lib.cut r sep.data.toList = p := ⟨_, rfl⟩
  rw [hp] at HC ⊢
  obtain ⟨p1, p2, p3⟩ := p
  simp only at HC ⊢
  clear hp hmc
  go_enter Tryz.func53, Tryz.ntmps53
  go_wp2_with fail
  refine HC.out.mono ?_
  rintro e w' ⟨rfl, k, rfl⟩
  cases f with
  | false =>
    go_wp2
    go_ret
    exact ⟨rfl, _, rfl⟩
  | true =>
    go_wp2
    go_ret
    exact ⟨rfl, _, rfl⟩
theorem until_t {sepl : List UInt8} {sep : ByteArray} {w : World} {o0 o1 : Obj} {r : List UInt8} {f : Bool} {c : Nat} {p r' : List UInt8} {f' : Bool} (h : untilL sepl (r, f) = (p, r', f')) (hsep : sep.data.toList = sepl) (hm : Max w) (hr : r.length ≤ 16777216) :
    Calls Tryz.prog 53 #[.string sep, .pointer (some ⟨w.heap.size + 1 + 1, 0, none⟩), .pointer (some ⟨w.heap.size + 1 + 1 + 1, 0, none⟩)] ((PW w o0 o1 r f).drewN c)
      fun e w' => e = .returned (.string (bytes p)) ∧ ∃ c', w' = (PW w o0 o1 r' f').drewN c' := by
  have := until_any sep w o0 o1 r f c hm hr
  rw [hsep, h] at this
  exact this
set_option maxHeartbeats 1000000 in
set_option maxRecDepth 100000 in
theorem told_any (w : World) (o0 o1 : Obj) (r : List UInt8) (f : Bool) (c : Nat) (hm : Max w) (hr : r.length ≤ 16777216) :
    Calls Tryz.prog 55 #[.pointer (some ⟨w.heap.size + 4, 0, none⟩), .pointer (some ⟨w.heap.size + 3, 0, none⟩)] ((PW w o0 o1 r f).drewN c)
      fun e w' => e = .returned (.string (bytes (toldL (r, f)).1)) ∧ ∃ c', w' = (PW w o0 o1 (toldL (r, f)).2.1 (toldL (r, f)).2.2).drewN c' := by
  have hsd : ∀ (X : World) (n : Nat) (p : Addr) (v : Value), (X.drewN n).setCell p v = (X.setCell p v).drewN n := fun _ _ _ _ => rfl
  unfold toldL
  obtain ⟨p, r', f', hu⟩ : ∃ p r' f', untilL [32] (r, f) = (p, r', f') := ⟨_, _, _, rfl⟩
  have HU := Lib.hid (until_t (w := w) (o0 := o0) (o1 := o1) (c := c) (sep := ⟨#[32]⟩) hu rfl hm hr)
  rw [hu]
  simp only
  clear hu
  have hq1 : ((bytes p).toList == [45]) = decide (p = [45]) := by rw [Lib.toList_data, bytes_list, Bool.eq_iff_iff, beq_iff_eq, decide_eq_true_iff]
  have hq2 : (bytes p).toList.isEmpty = decide (p = []) := by rw [Lib.toList_data, bytes_list]; cases p <;> simp
  by_cases h1 : p = []
  · have e1 : decide (p ≠ []) = false := decide_eq_false (fun h => h h1)
    have e2 : p ≠ [45] := by rw [h1]; decide
    rw [e1, if_neg e2]
    rw [decide_eq_false e2] at hq1
    rw [decide_eq_true h1] at hq2
    clear e1 e2 h1
    cases f' with
    | false =>
      go_enter Tryz.func55, Tryz.ntmps55
      go_wp2_with fail
      refine HU.out.mono ?_
      rintro e w' ⟨rfl, k, rfl⟩
      go_wp2
      go_ret
      exact ⟨rfl, _, rfl⟩
    | true =>
      go_enter Tryz.func55, Tryz.ntmps55
      go_wp2_with fail
      refine HU.out.mono ?_
      rintro e w' ⟨rfl, k, rfl⟩
      go_wp2
      go_ret
      exact ⟨rfl, _, rfl⟩
  · have e1 : decide (p ≠ []) = true := decide_eq_true h1
    rw [e1]
    rw [decide_eq_false h1] at hq2
    clear e1 h1
    by_cases h2 : p = [45]
    · rw [decide_eq_true h2] at hq1
      rw [if_pos h2]
      clear h2
      cases f' with
      | false =>
        go_enter Tryz.func55, Tryz.ntmps55
        go_wp2_with fail
        refine HU.out.mono ?_
        rintro e w' ⟨rfl, k, rfl⟩
        go_wp2
        go_ret
        exact ⟨rfl, _, rfl⟩
      | true =>
        go_enter Tryz.func55, Tryz.ntmps55
        go_wp2_with fail
        refine HU.out.mono ?_
        rintro e w' ⟨rfl, k, rfl⟩
        go_wp2
        go_ret
        exact ⟨rfl, _, rfl⟩
    · rw [decide_eq_false h2] at hq1
      rw [if_neg h2]
      clear h2
      cases f' with
      | false =>
        go_enter Tryz.func55, Tryz.ntmps55
        go_wp2_with fail
        refine HU.out.mono ?_
        rintro e w' ⟨rfl, k, rfl⟩
        go_wp2
        go_ret
        exact ⟨rfl, _, rfl⟩
      | true =>
        go_enter Tryz.func55, Tryz.ntmps55
        go_wp2_with fail
        refine HU.out.mono ?_
        rintro e w' ⟨rfl, k, rfl⟩
        go_wp2
        go_ret
        exact ⟨rfl, _, rfl⟩
theorem told_t {w : World} {o0 o1 : Obj} {r : List UInt8} {f : Bool} {c : Nat} {p r' : List UInt8} {f' : Bool} (h : toldL (r, f) = (p, r', f')) (hm : Max w) (hr : r.length ≤ 16777216) :
    Calls Tryz.prog 55 #[.pointer (some ⟨w.heap.size + 1 + 1 + 1 + 1, 0, none⟩), .pointer (some ⟨w.heap.size + 1 + 1 + 1, 0, none⟩)] ((PW w o0 o1 r f).drewN c)
      fun e w' => e = .returned (.string (bytes p)) ∧ ∃ c', w' = (PW w o0 o1 r' f').drewN c' := by
  have := told_any w o0 o1 r f c hm hr
  rw [h] at this
  exact this
end Go.Proofs.YtnaijahhogndjaaGreatDoor
