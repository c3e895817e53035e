/-
  TagLong returns true for every kind and every row of parts: a text of parts has five bytes, eight for each part, and the parts; a text that is refused is empty.
  Conditions: none (every input).
-/
import Derived.Test.YtdfmaimeogcpdaaRRRROpen
namespace Go.Proofs.YtdfmaimeogcpdaaRRRR.tagLong
open Go.ChangeShapes Go.WideShapes Go.ChangeAt Go.RowKit

theorem strOfNums_zero (l : List Int) (x : Int) (h : (strOfNums (x :: l)).size > 0) : (((strOfNums (x :: l))[0]'h).toNat : Int) = ((UInt8.ofNat x.toNat).toNat : Int) := rfl

set_option maxRecDepth 100000 in
set_option maxHeartbeats 1600000 in
theorem walk (kind : Int) (A : Option Addr) (n cap : Nat) (ss : List ByteArray) (w : World) (hT : TextsAt w A n ss) (hn : n ≤ 8796093022207) (hs : ∀ s ∈ ss, s.size ≤ 140737488351232) :
    Calls Try.prog 5 #[.int .i64 kind, .slice A n cap] w fun e w' => e = .returned (.bool true) ∧ Below w.heap.size w w' := by
  go_enter Try.func5, Try.ntmps5
  go_wp2_with fail
  refine (shown_any _).mono ?_
  rintro e w1 ⟨rfl, B1⟩
  have hT1 := hT.below B1
  go_wp2_with fail
  refine (long_any A n cap ss _ hT1 (by omega) (fun s h => by have := hs s h; omega)).mono ?_
  rintro e w1' ⟨rfl, rfl⟩
  by_cases hbig : 5000 < wrap64 ((n : Int) + sizes ss)
  · clear hT hT1 hs
    generalize wrap64 ((n : Int) + sizes ss) = v at hbig
    go_wp2
    go_ret
    exact ⟨rfl, B1⟩
  · by_cases href : refused kind n = 0
    · have hk : 0 ≤ kind ∧ kind ≤ 255 ∧ n ≤ 65536 := by
        unfold refused at href
        split at href
        · cases href
        · split at href
          · cases href
          · omega
      obtain ⟨kd, rfl⟩ := Int.eq_ofNat_of_zero_le hk.1
      have hl := sizes_le ss _ hs
      rw [hT.1] at hl
      have hle : n * 140737488351232 ≤ 65536 * 140737488351232 := Nat.mul_le_mul_right _ hk.2.2
      rw [wrap64_in _ (by omega) (by omega)] at hbig ⊢
      have hsum : n + sizes ss ≤ 5000 := by omega
      clear hle hl
      have hsz : (strOfNums (laid kd (ss.map nums))).size = 5 + (n + sizes ss) + 7 * n := by
        rw [strOfNums_size, laid_length, total_nums, List.length_map, hT.1]; omega
      have hz : ∀ h : 0 < (strOfNums (laid kd (ss.map nums))).size, (((strOfNums (laid kd (ss.map nums)))[0]'h).toNat : Int) = kd := fun h => by
        have e : laid kd (ss.map nums) = ((kd % 256 : Nat) : Int) :: (be 4 (ss.map nums).length ++ body (ss.map nums)) := by simp [laid, be]
        have e2 : ∀ (l : List Int) (hl : 0 < (strOfNums l).size), l = ((kd % 256 : Nat) : Int) :: (be 4 (ss.map nums).length ++ body (ss.map nums)) → (((strOfNums l)[0]'hl).toNat : Int) = kd := by
          rintro l hl rfl
          rw [strOfNums_zero]
          simp
          omega
        exact e2 _ h e
      have HZ := Lib.hid hz
      have HS := Lib.hid hsz
      clear hz hsz
      go_wp2_with fail
      refine (text_short kd A n cap ss _ (by omega) hk.2.2 hT1 (fun s h => by have := size_le_sizes h; omega)).mono ?_
      rintro e w2 ⟨rfl, hb2⟩
      have hsz := HS.out
      have hz := HZ.out
      clear HS HZ hT hT1 hs
      generalize strOfNums (laid kd (ss.map nums)) = X at hsz hz ⊢
      generalize sizes ss = q at hsum hsz hbig ⊢
      have hz0 := hz (by omega)
      clear hz
      have B2 := B1.trans (hb2.mono B1.size)
      go_wp2
      go_ret
      exact ⟨rfl, B2⟩
    · clear hs
      go_wp2_with fail
      refine (text_refused kind A n cap _ href).mono ?_
      rintro e w2 ⟨rfl, rfl⟩
      have hne : (refused kind n != 0) = true := by rw [bne_iff_ne]; exact href
      clear hT hT1
      generalize wrap64 ((n : Int) + sizes ss) = v at hbig
      generalize refused kind n = r at hne href
      go_wp2
      go_ret
      exact ⟨rfl, B1⟩

set_option maxRecDepth 100000 in
theorem lifted (os : Os) (started : os.Started) (H : Type) (enc : TypeId × Value → H) :
    ReturnsInHanded {} Try.checked os 5 .any (Rows.tagLongSpec.pre6 enc Try.prog Try.f5 Rows.tagLongRow.domain false) (Rows.tagLongSpec.post enc Try.prog Try.f5 false true false false) := by
  refine returnsInHanded_of_change_sized (C := Try.checked) own started (by kernel_rfl) Try.func5
    (ChangeSpec.witness6 (enc := enc) (C := Try.checked) false ⟨#[], #[.int .i64 0, .slice .none 0 0], []⟩ 8 (by kernel_rfl) (by kernel_rfl) (by kernel_rfl) (by kernel_rfl)) ?_
  intro W base args ds gs before hval0 hW hcnd hsz0 _
  have hval : ∀ (j : Nat) t v, Try.f5.params[j]? = some t → args[j]? = some v → Value.okWide Try.prog W .any base t v := hval0
  have hsz : (DataW.weightsEach Try.prog (Try.f5.params.toList ++ Rows.tagLongSpec.plain.varTypes Try.prog) (ds ++ gs)).all (· ≤ reachBytes) = true := hsz0
  have hW' := hW
  obtain ⟨p, q, hA0, hV, rfl, hfz, hnd⟩ := hW
  have hA : DataW.TrodAll enc Try.prog W 0 (fun _ => true) true Try.f5.params.toList args.toList ds p := hA0
  rw [Try.params5] at hA hval hsz
  obtain ⟨v0, vs0, d0, ds0, p0, q0, hargs, rfl, rfl, h0, r0⟩ := trodAll_cons hA
  obtain ⟨v1, vs1, d1, ds1, p1, q1, rfl, rfl, rfl, h1, r1⟩ := trodAll_cons r0
  obtain ⟨rfl, rfl, rfl⟩ := trodAll_nil r1
  obtain rfl : args = #[v0, v1] := by cases args; simp_all
  obtain ⟨rfl, rfl⟩ := trodVars_none hV
  have lt0 : ∀ x ∈ p0, x.block < W.heap.size := by obtain ⟨m, hm⟩ := h0; exact DataW.trod_lt m _ _ _ hm
  have lt1 : ∀ x ∈ p1, x.block < W.heap.size := by obtain ⟨m, hm⟩ := h1; exact DataW.trod_lt m _ _ _ hm
  obtain ⟨a1, len1, cap1, rfl⟩ := okWide_slice Try.underlying22 (hval 1 22 v1 rfl rfl)
  obtain ⟨kind, rfl⟩ := okWide_int Try.underlying3 (hval 0 3 v0 rfl rfl)
  obtain ⟨ss, hT, hd⟩ := open_row h1
  obtain ⟨hn, hs⟩ := row_bounds hT hd (fun m hm => by
    have := List.all_eq_true.1 hsz m (DataW.weights_mem_each (j := 1) (t := 22) rfl rfl m hm)
    simpa using this)
  clear hA0 hval0 hsz0
  refine (walk kind a1 len1 cap1 ss W hT hn hs).mono fun e W' ⟨he, bel⟩ => ?_
  subst he
  exact ⟨_, rfl, _, _, _, [], _, [], hW', trodAll_mk1 (shut_bool Try.underlying4 _), (trodAll_cons_mk (Below.trod laidOut (by kernel_rfl) (of_decide_eq_true (by kernel_rfl)) h0 bel lt0) (trodAll_cons_mk (Below.trod laidOut (by kernel_rfl) (of_decide_eq_true (by kernel_rfl)) h1 bel lt1) trodAll_mk0)), rfl, bel.frame _, fun h => by cases h⟩

theorem over : Rows.tagLongRow.holds Try.pinned (OpenSpec.ofChange Rows.tagLongSpec) :=
  OpenClaim.holds_of_wide 5 Try.f5 rfl rfl rfl rfl rfl rfl rfl ⟨rfl, rfl, rfl, rfl, rfl⟩ rfl rfl rfl rfl rfl (by kernel_rfl) Try.func5 (by kernel_rfl)
    (of_decide_eq_true (by kernel_rfl)) (by unfold Func.isWrapper; first | (rw [if_pos (by decide +kernel)]; kernel_rfl) | (rw [if_neg (by decide +kernel)]; exact ⟨rfl, rfl⟩))
    (fun os started H enc _ => lifted os started H enc)

theorem proved : Rows.TagLongSaid := over
#print axioms proved
end Go.Proofs.YtdfmaimeogcpdaaRRRR.tagLong
