/-
  DiskNew returns true for every three numbers: a new disk has nothing but 0, and is right; one that may not be isn't.
  Conditions: none (every input).
-/
import Derived.Test.YtpkoonokagchgaaLaw
import Derived.Test.YtpkoonokagchgaaReadLists
import Derived.Test.YtpkoonokagchgaaMade
namespace Go.Proofs.Ytpkoonokagchgaa.diskNew
open Go.ChangeShapes Go.WideShapes Go.ChangeAt Go.RowKit Go.Joins

theorem new_read {m s : Nat} {o : Int} (h : hasB m o = true) : readT (newD m s) o = zeros s := by
  have hl : (newD m s).ks.length = m := by simp [newD]
  rw [read_on rfl (by rw [hl]; exact h)]
  obtain ⟨h0, h1⟩ := hasB_iff.1 h
  have : imageD (newD m s) = List.replicate m (zeros s) := rfl
  rw [this, List.getD_eq_getElem?_getD, List.getElem?_replicate, if_pos (by omega)]
  rfl

set_option maxHeartbeats 4000000 in
set_option maxRecDepth 100000 in
theorem walk (many size o : Int) (w : World) :
    Calls Try.prog 9 #[.int .i64 many, .int .i64 size, .int .i64 o] w fun e w' => e = .returned (.bool true) ∧ Below w.heap.size w w' := by
  by_cases h0 : 100 < many ∧ many ≤ 4096
  · obtain ⟨h1, h2⟩ := h0
    go_enter Try.func9, Try.ntmps9
    go_wp2_with fail
    refine (shown_any _).mono ?_
    rintro e w1 ⟨rfl, hb1⟩
    go_wp2
    go_ret
    exact ⟨rfl, hb1⟩
  by_cases hsh : shapedB many size = true
  · obtain ⟨h1, h2, h3, h4⟩ := shapedB_iff.1 hsh
    obtain ⟨m, rfl⟩ : ∃ m : Nat, many = (m : Int) := ⟨many.toNat, by omega⟩
    obtain ⟨s, rfl⟩ : ∃ s : Nat, size = (s : Int) := ⟨size.toNat, by omega⟩
    have k1 : 1 ≤ m := by omega
    have k2 : m ≤ 4096 := by omega
    have k3 : 96 ≤ s := by omega
    have k4 : s ≤ 1024 := by omega
    have hm100 : ¬ (100 : Int) < (m : Int) := fun h => h0 ⟨h, h2⟩
    have HNEW : Hid (∀ W, Calls Try.prog 11 #[.int .i64 (m : Int), .int .i64 (s : Int)] W fun e w' => ∃ A', e = .returned (.tuple #[.agg #[.int .i64 (s : Int), .slice A' m m, .slice none 0 0, .bool false], .int .i64 0]) ∧ At w' (newD m s) A' m none 0 ∧ Below W.heap.size W w') := Lib.hid fun W =>
      (new_yes m s W k1 k2 k3 k4).mono fun e w' ⟨A', e1, e2, e3⟩ => ⟨A', e1, at_of (d := newD m s) e2 (RowW.nil w'), e3⟩
    have hl : (newD m s).ks.length = m := by simp [newD]
    have HRD : Hid (∀ W A, At W (newD m s) A m none 0 → Calls Try.prog 16 #[.agg #[.int .i64 (s : Int), .slice A m m, .slice none 0 0, .bool false], .int .i64 o] W fun e w' => e = .returned (.tuple #[.string (readT (newD m s) o), .int .i64 (if hasB m o then 0 else 5)]) ∧ Below W.heap.size W w') := Lib.hid fun W A h => by
      have := read_any (newD m s) (newD_ok k1 k2 k3 k4) o A m none 0 W h (by show 0 ≤ 1000000; decide)
      unfold dval at this
      rw [hl] at this
      exact this
    have HRI : Hid (∀ W A, At W (newD m s) A m none 0 → Calls Try.prog 29 #[.agg #[.int .i64 (s : Int), .slice A m m, .slice none 0 0, .bool false]] W fun e w' => e = .returned (.bool true) ∧ Below W.heap.size W w') := Lib.hid fun W A h => by
      have := refRight_any (newD m s) true (by simp [newD_ok k1 k2 k3 k4]) A m none 0 W h (by show 0 ≤ _; decide)
      unfold dval at this
      rw [hl] at this
      exact this
    have HMR := Lib.hid (fun W => made_row s (by omega) W)
    cases hb : hasB m o
    · rw [hb] at HRD
      have hno : ¬ (0 ≤ o ∧ o < (m : Int)) := fun h => by rw [hasB_iff.2 h] at hb; cases hb
      generalize readT (newD m s) o = X at *
      generalize newD m s = d at *
      clear hsh hl hb h0
      by_cases q : 0 ≤ o
      · have q2 : (m : Int) ≤ o := by omega
        clear hno
        go_enter Try.func9, Try.ntmps9
        go_wp2_with fail
        refine (shown_any _).mono ?_
        rintro e w1 ⟨rfl, hb1⟩
        have HB1 := Lib.hid hb1
        clear hb1
        go_wp2_with fail
        refine (HNEW.out _).mono ?_
        rintro e w2 ⟨A1, rfl, hat, hb2⟩
        have HD8 := Lib.hid (DB.new hat (s : Int) m 0 false)
        have HB2 := Lib.hid (below_trans (below_trans HB1.out hb2) (alloc_below w2 (.cells #[.int .i64 (s : Int), .slice A1 m m, .slice none 0 0, .bool false] 25)))
        clear hat hb2 HB1
        go_wp2_with fail
        refine (HRD.out _ _ HD8.out.a).mono ?_
        rintro e w3 ⟨rfl, hb3⟩
        have HE8 := Lib.hid (HD8.out.below hb3)
        have HB3 := Lib.hid (below_trans HB2.out hb3)
        clear hb3 HD8 HB2
        obtain ⟨z0, z1, z2, z3⟩ := HE8.out.four
        go_wp2_with fail
        refine (HRI.out _ _ HE8.out.a).mono ?_
        rintro e w5 ⟨rfl, hb5⟩
        have HF8 := Lib.hid (HE8.out.below hb5)
        have HB5 := Lib.hid (below_trans HB3.out hb5)
        clear hb5 HE8 HB3 z0 z1 z2 z3
        obtain ⟨z0, z1, z2, z3⟩ := HF8.out.four
        go_wp2
        go_ret
        exact ⟨by simp; omega, HB5.out⟩
      · clear hno
        go_enter Try.func9, Try.ntmps9
        go_wp2_with fail
        refine (shown_any _).mono ?_
        rintro e w1 ⟨rfl, hb1⟩
        have HB1 := Lib.hid hb1
        clear hb1
        go_wp2_with fail
        refine (HNEW.out _).mono ?_
        rintro e w2 ⟨A1, rfl, hat, hb2⟩
        have HD8 := Lib.hid (DB.new hat (s : Int) m 0 false)
        have HB2 := Lib.hid (below_trans (below_trans HB1.out hb2) (alloc_below w2 (.cells #[.int .i64 (s : Int), .slice A1 m m, .slice none 0 0, .bool false] 25)))
        clear hat hb2 HB1
        go_wp2_with fail
        refine (HRD.out _ _ HD8.out.a).mono ?_
        rintro e w3 ⟨rfl, hb3⟩
        have HE8 := Lib.hid (HD8.out.below hb3)
        have HB3 := Lib.hid (below_trans HB2.out hb3)
        clear hb3 HD8 HB2
        obtain ⟨z0, z1, z2, z3⟩ := HE8.out.four
        go_wp2_with fail
        refine (HRI.out _ _ HE8.out.a).mono ?_
        rintro e w5 ⟨rfl, hb5⟩
        have HF8 := Lib.hid (HE8.out.below hb5)
        have HB5 := Lib.hid (below_trans HB3.out hb5)
        clear hb5 HE8 HB3 z0 z1 z2 z3
        obtain ⟨z0, z1, z2, z3⟩ := HF8.out.four
        go_wp2
        go_ret
        exact ⟨by simp, HB5.out⟩
    · obtain ⟨q1, q2⟩ := hasB_iff.1 hb
      rw [new_read hb, hb] at HRD
      generalize zeros s = X at *
      generalize newD m s = d at *
      clear hsh hl hb h0
      go_enter Try.func9, Try.ntmps9
      go_wp2_with fail
      refine (shown_any _).mono ?_
      rintro e w1 ⟨rfl, hb1⟩
      have HB1 := Lib.hid hb1
      clear hb1
      go_wp2_with fail
      refine (HNEW.out _).mono ?_
      rintro e w2 ⟨A1, rfl, hat, hb2⟩
      have HD8 := Lib.hid (DB.new hat (s : Int) m 0 false)
      have HB2 := Lib.hid (below_trans (below_trans HB1.out hb2) (alloc_below w2 (.cells #[.int .i64 (s : Int), .slice A1 m m, .slice none 0 0, .bool false] 25)))
      clear hat hb2 HB1
      go_wp2_with fail
      refine (HRD.out _ _ HD8.out.a).mono ?_
      rintro e w3 ⟨rfl, hb3⟩
      have HE8 := Lib.hid (HD8.out.below hb3)
      have HB3 := Lib.hid (below_trans HB2.out hb3)
      clear hb3 HD8 HB2
      obtain ⟨z0, z1, z2, z3⟩ := HE8.out.four
      go_wp2_with fail
      refine (HRI.out _ _ HE8.out.a).mono ?_
      rintro e w5 ⟨rfl, hb5⟩
      have HF8 := Lib.hid (HE8.out.below hb5)
      have HB5 := Lib.hid (below_trans HB3.out hb5)
      clear hb5 HE8 HB3 z0 z1 z2 z3
      obtain ⟨z0, z1, z2, z3⟩ := HF8.out.four
      obtain ⟨W1, r1, r2, r3⟩ := HMR.out w5
      have HB6 := Lib.hid (below_trans HB5.out r3)
      clear r3
      go_wp2
      go_ret
      exact ⟨by simp, HB6.out⟩
  · have hn : shapedB many size = false := eq_false_of_ne_true hsh
    have hnot : ¬ (1 ≤ many ∧ many ≤ 4096 ∧ 96 ≤ size ∧ size ≤ 1024) := fun h => hsh (shapedB_iff.2 h)
    have HNEW : Hid (∀ W, Calls Try.prog 11 #[.int .i64 many, .int .i64 size] W fun e w' => e = .returned (.tuple #[.agg #[.int .i64 0, .slice none 0 0, .slice none 0 0, .bool false], .int .i64 1]) ∧ Below W.heap.size W w') := Lib.hid fun W => new_no many size W hn
    clear hsh hn
    by_cases hm : 100 < many
    · have hm2 : 4096 < many := by omega
      clear h0 hnot
      go_enter Try.func9, Try.ntmps9
      go_wp2_with fail
      refine (shown_any _).mono ?_
      rintro e w1 ⟨rfl, hb1⟩
      have HB1 := Lib.hid hb1
      clear hb1
      go_wp2_with fail
      refine (HNEW.out _).mono ?_
      rintro e w2 ⟨rfl, hb2⟩
      have HB2 : ∀ o, Hid (Below w.heap.size w (w2.alloc o)) := fun o => Lib.hid (below_trans (below_trans HB1.out hb2) (alloc_below w2 o))
      clear hb2 HB1
      go_wp2
      go_ret
      exact ⟨by simp, (HB2 _).out⟩
    · by_cases q1 : many < 1
      · clear h0 hnot
        go_enter Try.func9, Try.ntmps9
        go_wp2_with fail
        refine (shown_any _).mono ?_
        rintro e w1 ⟨rfl, hb1⟩
        have HB1 := Lib.hid hb1
        clear hb1
        go_wp2_with fail
        refine (HNEW.out _).mono ?_
        rintro e w2 ⟨rfl, hb2⟩
        have HB2 : ∀ o, Hid (Below w.heap.size w (w2.alloc o)) := fun o => Lib.hid (below_trans (below_trans HB1.out hb2) (alloc_below w2 o))
        clear hb2 HB1
        go_wp2
        go_ret
        exact ⟨by simp, (HB2 _).out⟩
      · by_cases q2 : size < 96
        · clear h0 hnot
          go_enter Try.func9, Try.ntmps9
          go_wp2_with fail
          refine (shown_any _).mono ?_
          rintro e w1 ⟨rfl, hb1⟩
          have HB1 := Lib.hid hb1
          clear hb1
          go_wp2_with fail
          refine (HNEW.out _).mono ?_
          rintro e w2 ⟨rfl, hb2⟩
          have HB2 : ∀ o, Hid (Below w.heap.size w (w2.alloc o)) := fun o => Lib.hid (below_trans (below_trans HB1.out hb2) (alloc_below w2 o))
          clear hb2 HB1
          go_wp2
          go_ret
          exact ⟨by simp, (HB2 _).out⟩
        · have q3 : 1024 < size := by omega
          clear h0 hnot
          go_enter Try.func9, Try.ntmps9
          go_wp2_with fail
          refine (shown_any _).mono ?_
          rintro e w1 ⟨rfl, hb1⟩
          have HB1 := Lib.hid hb1
          clear hb1
          go_wp2_with fail
          refine (HNEW.out _).mono ?_
          rintro e w2 ⟨rfl, hb2⟩
          have HB2 : ∀ o, Hid (Below w.heap.size w (w2.alloc o)) := fun o => Lib.hid (below_trans (below_trans HB1.out hb2) (alloc_below w2 o))
          clear hb2 HB1
          go_wp2
          go_ret
          exact ⟨by simp, (HB2 _).out⟩

set_option maxRecDepth 100000 in
theorem lifted (os : Os) (started : os.Started) (H : Type) (enc : TypeId × Value → H) :
    ReturnsInHanded {} Try.checked os 9 .any (Rows.diskNewSpec.pre6 enc Try.prog Try.f9 Rows.diskNewRow.domain false) (Rows.diskNewSpec.post enc Try.prog Try.f9 false true false false) := by
  refine returnsInHanded_of_change (C := Try.checked) own started (by kernel_rfl) Try.func9
    (ChangeSpec.witness6 (enc := enc) (C := Try.checked) false ⟨#[], #[.int .i64 0, .int .i64 0, .int .i64 0], []⟩ 8 (by kernel_rfl) (by kernel_rfl) (by kernel_rfl) (by kernel_rfl)) ?_
  intro W base args ds gs before hval0 hW hcnd _
  have hval : ∀ (j : Nat) t v, Try.f9.params[j]? = some t → args[j]? = some v → Value.okWide Try.prog W .any base t v := hval0
  have hW' := hW
  obtain ⟨p, q, hA0, hV, rfl, hfz, hnd⟩ := hW
  have hA : DataW.TrodAll enc Try.prog W 0 (fun _ => true) true Try.f9.params.toList args.toList ds p := hA0
  rw [Try.params9] at hA hval
  obtain ⟨v0, vs0, d0, ds0, p0, q0, hargs, rfl, rfl, h0, r0⟩ := trodAll_cons hA
  obtain ⟨v1, vs1, d1, ds1, p1, q1, rfl, rfl, rfl, h1, r1⟩ := trodAll_cons r0
  obtain ⟨v2, vs2, d2, ds2, p2, q2, rfl, rfl, rfl, h2, r2⟩ := trodAll_cons r1
  obtain ⟨rfl, rfl, rfl⟩ := trodAll_nil r2
  obtain rfl : args = #[v0, v1, v2] := by cases args; simp_all
  obtain ⟨rfl, rfl⟩ := trodVars_none hV
  have lt0 : ∀ x ∈ p0, x.block < W.heap.size := by obtain ⟨m, hm⟩ := h0; exact DataW.trod_lt m _ _ _ hm
  have lt1 : ∀ x ∈ p1, x.block < W.heap.size := by obtain ⟨m, hm⟩ := h1; exact DataW.trod_lt m _ _ _ hm
  have lt2 : ∀ x ∈ p2, x.block < W.heap.size := by obtain ⟨m, hm⟩ := h2; exact DataW.trod_lt m _ _ _ hm
  obtain ⟨n0, rfl, _⟩ := open_int Try.underlying3 (hval 0 3 v0 rfl rfl) h0
  obtain ⟨n1, rfl, _⟩ := open_int Try.underlying3 (hval 1 3 v1 rfl rfl) h1
  obtain ⟨n2, rfl, _⟩ := open_int Try.underlying3 (hval 2 3 v2 rfl rfl) h2
  clear hA0 hval0
  refine (walk n0 n1 n2 W).mono fun e W' ⟨he, bel⟩ => ?_
  subst he
  exact ⟨_, rfl, _, _, _, [], _, [], hW', trodAll_mk1 (shut_bool Try.underlying4 _), (trodAll_cons_mk (Below.trod laidOut (by kernel_rfl) (of_decide_eq_true (by kernel_rfl)) h0 bel lt0) (trodAll_cons_mk (Below.trod laidOut (by kernel_rfl) (of_decide_eq_true (by kernel_rfl)) h1 bel lt1) (trodAll_cons_mk (Below.trod laidOut (by kernel_rfl) (of_decide_eq_true (by kernel_rfl)) h2 bel lt2) trodAll_mk0))), rfl, bel.frame _, fun h => by cases h⟩

theorem over : Rows.diskNewRow.holds Try.pinned (OpenSpec.ofChange Rows.diskNewSpec) :=
  OpenClaim.holds_of_wide 9 Try.f9 rfl rfl rfl rfl rfl rfl rfl ⟨rfl, rfl, rfl, rfl, rfl⟩ rfl rfl rfl rfl rfl (by kernel_rfl) Try.func9 (by kernel_rfl)
    (of_decide_eq_true (by kernel_rfl)) (by unfold Func.isWrapper; first | (rw [if_pos (by decide +kernel)]; kernel_rfl) | (rw [if_neg (by decide +kernel)]; exact ⟨rfl, rfl⟩))
    (fun os started H enc _ => lifted os started H enc)

theorem proved : Rows.DiskNewSaid := over
#print axioms proved
end Go.Proofs.Ytpkoonokagchgaa.diskNew
