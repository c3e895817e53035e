/-
  WordApart returns true for every two words and every two texts: two words' bytes are the same just if the words are, and two texts of 64 bytes have the same words, as bytes, just if they are the same.
  Conditions: none (every input).
-/
import Derived.Test.YtgoodhiclkbclaaRRRRWords
import Derived.OpenShut
import Derived.ShutString
import Derived.ChangeOld
import Derived.Below
import Derived.Lib.SmallJoins
namespace Go.Proofs.YtgoodhiclkbclaaRRRR.wordApart
open Go.ChangeShapes Go.WideShapes Go.ChangeAt Go.RowKit Go.Joins
open Go.ChangeMaps (open_string shut_string)

/-- What Words answers, whatever the text: a row that Bytes turns into the text again, if it has 64 bytes. -/
def Told (s : ByteArray) (w : World) (e : Ending) (w' : World) : Prop :=
  ∃ (A : Option Addr) (n : Nat) (c : Int) (zs : List Int), e = .returned (.tuple #[.slice A n n, .int .i64 c]) ∧ RowAt w' A n zs ∧ n ≤ 16 ∧ Below w.heap.size w w' ∧ (s.size = 64 → strOfNums (fours zs) = s)

theorem words_all (s : ByteArray) (w : World) : Calls Try.prog 9 #[.string s] w (Told s w) := by
  by_cases h : s.size = 64
  · exact (words_yes s w h).mono fun e w' ⟨he, hr, hb⟩ => ⟨_, 16, 0, _, he, hr, by omega, hb, fun _ => strOfNums_words s h⟩
  · exact (words_no s w h).mono fun e w' ⟨he, hw⟩ => ⟨none, 0, 1, [], he, ⟨rfl, by simp, .inl rfl⟩, by omega, hw ▸ Below.refl _ _, fun k => absurd k h⟩

theorem one_row (w : World) (a : Int) (t : TypeId) (ha : 0 ≤ a ∧ a < 4294967296) : RowAt (w.alloc (.cells #[.int .u32 a] t)) (some ⟨w.heap.size, 0, none⟩) 1 [a] := by
  refine ⟨rfl, by simpa using ha, .inr ⟨_, 0, rfl, by simp, ?_⟩⟩
  intro i hi
  obtain rfl : i = 0 := by omega
  rw [cell_of_row _ _ _ #[.int .u32 a] t (0, 0) (heap_alloc_last w _)]
  rfl
theorem one_same (a b : Int) (ha : 0 ≤ a ∧ a < 4294967296) (hb : 0 ≤ b ∧ b < 4294967296) : ((strOfNums (fours [a])).toList == (strOfNums (fours [b])).toList) = (a == b) := by
  have e : ∀ z, fours [z] = four z := fun z => by simp [fours]
  rw [e, e]
  by_cases h : a = b
  · subst h; simp
  · have hne : ¬ (strOfNums (four a)).toList = (strOfNums (four b)).toList := fun k => h (strOfNums_four_inj ha hb (by rw [ByteArray.toList_eq, ByteArray.toList_eq] at k; exact ByteArray.ext (Array.toList_inj.mp k)))
    rw [beq_eq_false_iff_ne.2 h, beq_eq_false_iff_ne.2 hne]

set_option maxHeartbeats 800000 in
theorem walk (a b : Int) (s t : ByteArray) (w : World) (ha : 0 ≤ a ∧ a < 4294967296) (hb : 0 ≤ b ∧ b < 4294967296) :
    Calls Try.prog 5 #[.agg #[.int .u32 a, .int .u32 b, .string s, .string t]] w fun e w' => e = .returned (.bool true) ∧ Below w.heap.size w w' := by
  go_enter Try.func5, Try.ntmps5
  go_wp2_with fail
  refine (shown_any _).mono ?_
  rintro e w1 ⟨rfl, hb1⟩
  have B1 : Below w.heap.size w w1 := ((Below.refl _ _).alloc (Nat.le_refl _) _).trans (hb1.mono (by simp))
  clear hb1
  go_wp2_with fail
  refine (words_all s _).mono ?_
  rintro e w2 ⟨A, n, c, zs, rfl, hA, hn, hb2, hs⟩
  have B2 : Below w.heap.size w w2 := B1.trans (hb2.mono B1.size)
  have HS := Lib.hid hs
  clear hs hb2
  go_wp2_with fail
  refine (words_all t _).mono ?_
  rintro e w3 ⟨A', n', c', zt, rfl, hA', hn', hb3, ht⟩
  have B3 : Below w.heap.size w w3 := B2.trans (hb3.mono B2.size)
  have hA3 := hA.below hb3
  have HT := Lib.hid ht
  clear ht hb3 hA
  go_wp2_with fail
  refine (bytes_any A n n zs _ hA3 (by omega)).mono ?_
  rintro e w4 ⟨rfl, hb4⟩
  have B4 : Below w.heap.size w w4 := B3.trans (hb4.mono B3.size)
  have hA4 := hA'.below hb4
  clear hb4 hA' hA3
  go_wp2_with fail
  refine (bytes_any A' n' n' zt _ hA4 (by omega)).mono ?_
  rintro e w5 ⟨rfl, hb5⟩
  have B5 : Below w.heap.size w w5 := B4.trans (hb5.mono B4.size)
  clear hb5 hA4
  have hsame : s.size = 64 → t.size = 64 → strOfNums (fours zs) = s ∧ strOfNums (fours zt) = t := fun h1 h2 => ⟨HS.out h1, HT.out h2⟩
  clear HS HT hn hn'
  generalize strOfNums (fours zs) = X at hsame ⊢
  generalize strOfNums (fours zt) = Y at hsame ⊢
  have HX := Lib.hid hsame
  clear hsame
  go_wp2_with fail
  refine (bytes_any _ 1 1 [a] _ (one_row _ _ _ ha) (by omega)).mono ?_
  rintro e w6 ⟨rfl, hb6⟩
  have B6 : Below w.heap.size w w6 := (B5.alloc B5.size _).trans (hb6.mono (by simp; have := B5.size; omega))
  clear hb6
  go_wp2_with fail
  refine (bytes_any _ 1 1 [b] _ (one_row _ _ _ hb) (by omega)).mono ?_
  rintro e w7 ⟨rfl, hb7⟩
  have B7 : Below w.heap.size w w7 := (B6.alloc B6.size _).trans (hb7.mono (by simp; have := B6.size; omega))
  clear hb7
  have hone : ((strOfNums (fours [a])).toList == (strOfNums (fours [b])).toList) = (a == b) := one_same a b ha hb
  generalize (strOfNums (fours [a])) = U at hone ⊢
  generalize (strOfNums (fours [b])) = V at hone ⊢
  by_cases h1 : s.size = 64
  · by_cases h2 : t.size = 64
    · obtain ⟨rfl, rfl⟩ := HX.out h1 h2
      have n1 : (((X.size : Nat) : Int) != 64) = false := by rw [h1]; rfl
      have n2 : (((Y.size : Nat) : Int) != 64) = false := by rw [h2]; rfl
      clear HX h1 h2
      go_wp2
      go_ret
      exact ⟨rfl, B7⟩
    · have n1 : (((s.size : Nat) : Int) != 64) = false := by rw [h1]; rfl
      have n2 : (((t.size : Nat) : Int) != 64) = true := by rw [bne_iff_ne]; omega
      clear HX h1 h2
      go_wp2
      go_ret
      exact ⟨rfl, B7⟩
  · have n1 : (((s.size : Nat) : Int) != 64) = true := by rw [bne_iff_ne]; omega
    clear HX h1
    go_wp2
    go_ret
    exact ⟨rfl, B7⟩

theorem own : ownKnob Try.prog.godebug = none := by kernel_rfl
theorem laidOut : laidOutB Try.prog = true := by kernel_rfl
theorem cells30 : Try.prog.cellsOf 30 = 4 := by kernel_rfl

theorem u32_bounds {a : Int} (h : (Lit.int .u32 a).wf = true) : 0 ≤ a ∧ a < 4294967296 := by
  simp only [Lit.wf, Bool.and_eq_true, decide_eq_true_eq] at h
  have h2 : a ≤ 4294967295 := h.2
  exact ⟨h.1, by omega⟩

set_option maxRecDepth 100000 in
theorem lifted (os : Os) (started : os.Started) (H : Type) (enc : TypeId × Value → H) :
    ReturnsInHanded {} Try.checked os 5 .any (Rows.wordApartSpec.pre6 enc Try.prog Try.f5 Rows.wordApartRow.domain false) (Rows.wordApartSpec.post enc Try.prog Try.f5 false true false false) := by
  refine returnsInHanded_of_change (C := Try.checked) own started (by kernel_rfl) Try.func5
    (ChangeSpec.witness6 (enc := enc) (C := Try.checked) false ⟨#[], #[.agg #[.int .u32 0, .int .u32 0, .string ByteArray.empty, .string ByteArray.empty]], []⟩ 8 (by kernel_rfl) (by kernel_rfl) (by kernel_rfl) (by kernel_rfl)) ?_
  intro W base args ds gs before hval0 hW hcnd _
  have hval : ∀ (j : Nat) t v, Try.f5.params[j]? = some t → args[j]? = some v → Value.okWide Try.prog W .any base t v := hval0
  have hW' := hW
  obtain ⟨p, q, hA0, hV, rfl, hfz, hnd⟩ := hW
  have hA : DataW.TrodAll enc Try.prog W 0 (fun _ => true) true Try.f5.params.toList args.toList ds p := hA0
  rw [Try.params5] at hA hval
  obtain ⟨v0, d0, rfl, rfl, h0⟩ := trodAll_one hA
  obtain ⟨rfl, rfl⟩ := trodVars_none hV
  have k0 := h0
  have lt0 : ∀ x ∈ p, x.block < W.heap.size := by obtain ⟨m, hm⟩ := k0; exact DataW.trod_lt m _ _ _ hm
  obtain ⟨c0, c1, c2, c3, y0, y1, y2, y3, m, rfl, hd, hp, hy0, hy1, hy2, hy3⟩ := open_agg4 Try.underlying30 (by kernel_rfl) cells30 (hval 0 30 v0 rfl rfl) h0
  obtain ⟨a, e0, _, wa⟩ := DataW.trod_int Try.underlying22 hy0
  obtain ⟨b, e1, _, wb⟩ := DataW.trod_int Try.underlying22 hy1
  obtain ⟨s, e2, _, ws⟩ := DataW.trod_string Try.underlying9 hy2
  obtain ⟨t, e3, _, wt⟩ := DataW.trod_string Try.underlying9 hy3
  simp at e0 e1 e2 e3
  subst e0 e1 e2 e3
  clear hA0 hval0
  refine (walk a b s t W (u32_bounds wa) (u32_bounds wb)).mono fun e W' ⟨he, bel⟩ => ?_
  subst he
  exact ⟨_, rfl, _, _, _, [], _, [], hW', trodAll_mk1 (shut_bool Try.underlying4 _), (trodAll_mk1 (Below.trod laidOut (by kernel_rfl) (of_decide_eq_true (by kernel_rfl)) k0 bel lt0)), rfl, bel.frame _, fun h => by cases h⟩

theorem over : Rows.wordApartRow.holds Try.pinned (OpenSpec.ofChange Rows.wordApartSpec) :=
  OpenClaim.holds_of_wide 5 Try.f5 rfl rfl rfl rfl rfl rfl rfl ⟨rfl, rfl, rfl, rfl, rfl⟩ rfl rfl rfl rfl rfl (by kernel_rfl) Try.func5 (by kernel_rfl)
    (of_decide_eq_true (by kernel_rfl)) (by unfold Func.isWrapper; first | (rw [if_pos (by decide +kernel)]; kernel_rfl) | (rw [if_neg (by decide +kernel)]; exact ⟨rfl, rfl⟩))
    (fun os started H enc _ => lifted os started H enc)

theorem proved : Rows.WordApartSaid := over
#print axioms proved
end Go.Proofs.YtgoodhiclkbclaaRRRR.wordApart
