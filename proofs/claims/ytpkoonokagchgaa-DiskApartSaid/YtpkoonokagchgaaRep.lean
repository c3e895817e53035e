/- What slices.Repeat answers of one text: a row of as many of it. Conditions: 1 to 4096 times. -/
import Derived.Test.YtpkoonokagchgaaShelf
import Derived.Test.YtpkoonokagchgaaRefWrite2
import Derived.Laws.CopyOwn
import Derived.OwnWalk
namespace Go.Proofs.Ytpkoonokagchgaa
open Go.ChangeShapes Go.WideShapes Go.ChangeAt Go.RowKit Go.Shelf

/-- A row of one's own without room is a block. -/
theorem own_block {W : World} {base g : Nat} {e : TypeId} {n : Nat} {xs : List Value} (h : W.ownsRow base e 1 (.slice (some ⟨g, 0, none⟩) n n) n xs) : W.heap[g]? = some (.cells xs.toArray e (0, 0)) := by
  rcases h.2 with ⟨h1, _⟩ | ⟨g', cap, cur, h1, _, hg, _, _, hcs, ht⟩
  · simp at h1
  · simp only [Value.slice.injEq, Option.some.injEq, Addr.mk.injEq, and_true, true_and] at h1
    obtain ⟨rfl, rfl⟩ := h1
    rw [hg]
    have : cur.toList = xs := by rw [← ht, List.take_of_length_le]; simp [hcs]
    rw [← this]

theorem splice_take {s : Value} {L : List Value} {k c : Nat} (h : L.take k = List.replicate k s) (hk : k + c ≤ L.length) : (splice L k (List.replicate c s)).take (k + c) = List.replicate (k + c) s := by
  have h1 : (L.take k).length = k := by rw [List.length_take]; omega
  unfold splice
  rw [List.take_append, h1, h]
  have h2 : k + c - k = c := by omega
  rw [h2, List.take_of_length_le (by rw [List.length_replicate]; omega), List.take_append, List.length_replicate, Nat.sub_self, List.take_zero, List.append_nil, List.take_of_length_le (by simp)]
  rw [List.replicate_append_replicate]

theorem rep_cells (s : ByteArray) (k : Nat) : List.replicate k (Value.string s) = tcells (List.replicate k s) := by simp [tcells]
theorem rep_one (s : ByteArray) (k : Nat) : ∀ v ∈ List.replicate k (Value.string s), v.oneCell' = true := by
  intro v hv
  rw [List.eq_of_mem_replicate hv]
  rfl
theorem rep_get {s : Value} {L : List Value} {k : Nat} (h : L.take k = List.replicate k s) (j : Nat) (hj : j < k) : L[j]? = some s := by
  have : (L.take k)[j]? = some s := by rw [h, List.getElem?_replicate, if_pos hj]
  rw [List.getElem?_take, if_pos hj] at this
  exact this

theorem wrap_in {x : Int} (h1 : -9223372036854775808 ≤ x) (h2 : x ≤ 9223372036854775807) : IntKind.i64.wrap x = x := by
  show (if (true && decide (x % 18446744073709551616 ≥ 9223372036854775808)) = true then x % 18446744073709551616 - 18446744073709551616 else x % 18446744073709551616) = x
  simp only [Bool.true_and, decide_eq_true_eq]
  split <;> omega

theorem info9s : (Try.prog.info? 9).map (·.size) = some 1 := by kernel_rfl

set_option maxHeartbeats 4000000 in
set_option maxRecDepth 100000 in
theorem repeat_any (s : ByteArray) (b c m : Nat) (w : World) (hb : w.cell? ⟨b, 0, none⟩ = some (.string s)) (h1 : 1 ≤ m) (h2 : m ≤ 4096) :
    Calls Try.prog 32 #[.slice (some ⟨b, 0, none⟩) 1 c, .int .i64 (m : Int)] w fun e w' => ∃ A', e = .returned (.slice A' m m) ∧ RowT w' A' m (List.replicate m s) ∧ NewA w A' ∧ Below w.heap.size w w' := by
  obtain ⟨i0, hi, hi0, hi1, hi2⟩ := info9
  have HI := Lib.hid hi
  have HI0 := Lib.hid hi0
  have HI1 := Lib.hid hi1
  have HI2 := Lib.hid hi2
  have HIB := Lib.hid (show i0.bytes * m ≤ 281474976710656 by rw [hi2]; omega)
  clear hi hi0 hi1 hi2
  have HM := Lib.hid (Try.bits_Mul 1 m (by decide) (by omega) w)
  rw [show 1 * m / 18446744073709551616 = 0 by omega, show 1 * m % 18446744073709551616 = m by omega] at HM
  have hbl : b < w.heap.size := cell_lt hb
  have HBC := Lib.hid hb
  clear hb
  go_enter Try.func32, Try.ntmps32
  go_wp2_with fail
  refine HM.out.mono ?_
  rintro e w0 ⟨rfl, rfl⟩
  go_upto_region 7 with (at_make; refine wpList_make_full _ rfl _ _ 22 rfl w0.heap.size 9 i0 (.string ⟨#[]⟩) 1 Try.underlying22 HI.out HI0.out HI1.out _ _ _ _ m rfl rfl rfl rfl HIB.out (by unfold maxLen; omega) (Nat.le_refl _) ?_; intro w1 hown hgrow)
  have HB1 : Hid (Below w0.heap.size w0 w1) := Lib.hid ((Below.refl _ w0).grown hgrow (Nat.le_refl _) (fun g hg => by cases hg))
  obtain ⟨Z, hZ⟩ : ∃ Z, (madeCells (Value.string ⟨#[]⟩).cells (m * 1)).toList = Z := ⟨_, rfl⟩
  rw [hZ] at hown
  have HZL : Hid (Z.length = m) := Lib.hid (by have := hown.1; omega)
  have HG := Lib.hid (own_block hown)
  have HC1 : Hid (w1.cell? ⟨b, 0, none⟩ = some (.string s)) := Lib.hid ((HB1.out.cell (p := ⟨b, 0, none⟩) hbl).trans HBC.out)
  clear hown hgrow hZ HI HI0 HI1 HI2 HIB HM HBC
  have HSRC : Hid (∀ j v, (List.replicate 1 (Value.string s))[j]? = some v → w1.cell? ((⟨b, 0, none⟩ : Addr).add j) = some v) := Lib.hid fun j v hv => by
    rw [List.getElem?_replicate] at hv
    split at hv
    · obtain rfl : j = 0 := by omega
      rw [add_plain]
      rw [← hv]
      exact HC1.out
    · cases hv
  have hzl := HZL.out
  have HMN : Hid ((List.replicate 1 (Value.string s)).length = Nat.min 1 m) := Lib.hid (by rw [List.length_replicate]; show 1 = min 1 m; omega)
  have HFT : Hid (0 + (List.replicate 1 (Value.string s)).length ≤ Z.length) := Lib.hid (by rw [List.length_replicate]; omega)
  go_wp2_with ((refine wpList_copy_splice rfl _ _ 22 22 rfl 9 Try.underlying22 info9s (some ⟨w0.heap.size, 0, none⟩) (some ⟨b, 0, none⟩) m m 1 c rfl rfl w0.heap.size 0 Z 9 HG.out (List.replicate 1 (.string s)) HMN.out (fun _ => ⟨rfl, _, rfl, HSRC.out⟩) HFT.out (rep_one s 1) w0.heap.size w0 HB1.out (Nat.le_refl _) ?_); intro w2 hg2 hb2)
  have HL1 : Hid ((splice Z 0 (List.replicate 1 (Value.string s))).length = m ∧ (splice Z 0 (List.replicate 1 (Value.string s))).take 1 = List.replicate 1 (Value.string s)) := Lib.hid ⟨by rw [length_splice _ _ _ HFT.out, HZL.out], by
    have := splice_take (s := Value.string s) (L := Z) (k := 0) (c := 1) rfl (by omega)
    exact this⟩
  clear HSRC HMN HFT hzl HG HC1
  go_loopw [8] (fun v wr => ∃ (k : Nat) (L : List Value), 1 ≤ k ∧ k ≤ m ∧ v = .int .i64 (k : Int) ∧ Hid (wr.heap[w0.heap.size]? = some (.cells L.toArray 9 (0, 0))) ∧ Hid (L.length = m ∧ L.take k = List.replicate k (.string s)) ∧ Below w0.heap.size w0 wr) (fun v _ => m - (intOf v).toNat)
  case atStart => exact ⟨1, _, Nat.le_refl _, h1, rfl, hg2, HL1, hb2⟩
  case round =>
    rename World => v
    obtain ⟨k, L, hk1, hkm, rfl, hg, hL, hB⟩ := hrel
    by_cases hlt : k < m
    · obtain ⟨q, hq⟩ : ∃ q, min k (m - k) = q := ⟨_, rfl⟩
      have hq1 : 0 < q := by omega
      have hq2 : k + q ≤ m := by omega
      have hwr : IntKind.i64.wrap ((k : Int) + (q : Int)) = ((k + q : Nat) : Int) := by rw [wrap_in (by omega) (by omega)]; omega
      have HMN : Hid ((List.replicate q (Value.string s)).length = Nat.min k (m - k)) := Lib.hid (by rw [List.length_replicate]; exact hq.symm)
      have HFT : Hid (k + (List.replicate q (Value.string s)).length ≤ L.length) := Lib.hid (by rw [List.length_replicate, hL.out.1]; omega)
      have HSRC : Hid (∀ W : World, W.heap[w0.heap.size]? = some (.cells L.toArray 9 (0, 0)) → ∀ j v, (List.replicate q (Value.string s))[j]? = some v → W.cell? ((⟨w0.heap.size, 0, none⟩ : Addr).add j) = some v) := Lib.hid fun W hW j v hv => by
        rw [List.getElem?_replicate] at hv
        split at hv
        · rw [add_plain, Nat.zero_add, cell_of_row W _ j _ 9 (0, 0) hW, ← hv]
          have := rep_get hL.out.2 j (by omega)
          simpa using this
        · cases hv
      have HN1 : Hid ((splice L k (List.replicate q (Value.string s))).length = m ∧ (splice L k (List.replicate q (Value.string s))).take (k + q) = List.replicate (k + q) (Value.string s)) := Lib.hid ⟨by rw [length_splice _ _ _ HFT.out, hL.out.1], splice_take hL.out.2 (by rw [hL.out.1]; omega)⟩
      have HD : Hid (v.drew.heap[w0.heap.size]? = some (.cells L.toArray 9 (0, 0))) := Lib.hid hg.out
      go_upto_region 9 with fail
      refine wp_region_held_drew (S := fun W' => Below w0.heap.size w0 W') (by kernel_rfl) hB.drew (fun hHeld => ?_)
      generalize v.drew = v1 at *
      refine wpAnyH_take (i := 0) (v := ?_) rfl (by kernel_rfl) (by kernel_rfl) (by kernel_rfl) (fun _ _ _ h => h) (Or.inl ⟨by rfl, ?_⟩) (by assumption) ?_
      rotate_left
      · intro w hSw; (try dsimp only at hSw); go_simp; first | done | with_reducible rfl
      simp only [Act.put, List.getElem_toArray, List.getElem_cons_zero, List.setIfInBounds_toArray, List.set_cons_zero, List.set_cons_succ]
      refine wpAnyH_take (i := 1) (v := ?_) rfl (by kernel_rfl) (by kernel_rfl) (by kernel_rfl) (fun _ _ _ h => h) (Or.inl ⟨by rfl, ?_⟩) (by assumption) ?_
      rotate_left
      · intro w hSw; (try dsimp only at hSw); go_simp; first | done | with_reducible rfl
      simp only [Act.put, List.getElem_toArray, List.getElem_cons_zero, List.getElem_cons_succ, List.setIfInBounds_toArray, List.set_cons_zero, List.set_cons_succ]
      refine wpAnyH_take (i := 2) (v := ?_) rfl (by kernel_rfl) (by kernel_rfl) (by kernel_rfl) (fun _ _ _ h => h) (Or.inl ⟨by rfl, ?_⟩) (by assumption) ?_
      rotate_left
      · intro w hSw; (try dsimp only at hSw); go_simp; first | done | with_reducible rfl
      simp only [Act.put, List.getElem_toArray, List.getElem_cons_zero, List.getElem_cons_succ, List.setIfInBounds_toArray, List.set_cons_zero, List.set_cons_succ]
      refine wpAnyH_take (i := 3) (v := ?_) rfl (by kernel_rfl) (by kernel_rfl) (by kernel_rfl) (fun _ _ _ h => h) (Or.inl ⟨by rfl, ?_⟩) (by assumption) ?_
      rotate_left
      · intro w hSw; (try dsimp only at hSw); go_simp; first | done | with_reducible rfl
      simp only [Act.put, List.getElem_toArray, List.getElem_cons_zero, List.getElem_cons_succ, List.setIfInBounds_toArray, List.set_cons_zero, List.set_cons_succ]
      refine wpAnyH_take (i := 4) (v := ?_) rfl (by kernel_rfl) (by kernel_rfl) (by kernel_rfl) (fun _ _ _ h => h) (Or.inl ⟨by rfl, ?_⟩) (by assumption) ?_
      rotate_left
      · intro w hSw; (try dsimp only at hSw); go_simp; first | done | with_reducible rfl
      simp only [Act.put, List.getElem_toArray, List.getElem_cons_zero, List.getElem_cons_succ, List.setIfInBounds_toArray, List.set_cons_zero, List.set_cons_succ]
      refine wpAnyH_take (i := 5) (v := ?_) rfl (by kernel_rfl) (by kernel_rfl) (by kernel_rfl) (fun _ _ _ h => h) (Or.inl ⟨by rfl, ?_⟩) (by assumption) ?_
      rotate_left
      · intro w hSw; (try dsimp only at hSw); go_simp; first | done | with_reducible rfl
      simp only [Act.put, List.getElem_toArray, List.getElem_cons_zero, List.getElem_cons_succ, List.setIfInBounds_toArray, List.set_cons_zero, List.set_cons_succ]
      refine wpAnyH_take (i := 6) (v := ?_) rfl (by kernel_rfl) (by kernel_rfl) (by kernel_rfl) (fun _ _ _ h => h) (Or.inl ⟨by rfl, ?_⟩) (by assumption) ?_
      rotate_left
      · intro w hSw; (try dsimp only at hSw); go_simp; first | done | with_reducible rfl
      simp only [Act.put, List.getElem_toArray, List.getElem_cons_zero, List.getElem_cons_succ, List.setIfInBounds_toArray, List.set_cons_zero, List.set_cons_succ]
      refine wpAnyH_ready (rs := [7]) (by kernel_rfl) (by simp) ?_
      refine AllReadyH.cons rfl (fun K hK => ?_) AllReadyH.nil
      refine step_copy_splice rfl (.tmp 41) (.tmp 44) 22 22 rfl 9 Try.underlying22 info9s (if m = k then some ⟨w0.heap.size, 0, none⟩ else some ⟨w0.heap.size, k, none⟩) (some ⟨w0.heap.size, 0, none⟩) (m - k) (m - k) k m rfl rfl w0.heap.size k L 9 HD.out (List.replicate q (.string s)) HMN.out (fun _ => ⟨if_neg (by omega), _, rfl, HSRC.out _ HD.out⟩) HFT.out (rep_one s q) w0.heap.size w0 hHeld (Nat.le_refl _) ?_
      intro w4 hg4 hb4
      refine hK.out _ _ hb4 (fun hHeld4 => ?_)
      rw [List.length_replicate]
      clear hK K hb4 hHeld HD
      refine wpAnyH_take (i := 8) (v := ?_) rfl (by kernel_rfl) (by kernel_rfl) (by kernel_rfl) (fun _ _ _ h => h) (Or.inl ⟨by rfl, ?_⟩) (by assumption) ?_
      rotate_left
      · intro w hSw; (try dsimp only at hSw); go_simp; first | done | with_reducible rfl
      simp only [Act.put, List.getElem_toArray, List.getElem_cons_zero, List.getElem_cons_succ, List.setIfInBounds_toArray, List.set_cons_zero, List.set_cons_succ]
      refine wpAnyH_take (i := 9) (v := ?_) rfl (by kernel_rfl) (by kernel_rfl) (by kernel_rfl) (fun _ _ _ h => h) (Or.inl ⟨by rfl, ?_⟩) (by assumption) ?_
      rotate_left
      · intro w hSw; (try dsimp only at hSw); go_simp; first | done | with_reducible rfl
      simp only [Act.put, List.getElem_toArray, List.getElem_cons_zero, List.getElem_cons_succ, List.setIfInBounds_toArray, List.set_cons_zero, List.set_cons_succ]
      refine wpAnyH_done (by kernel_rfl) ?_ _
      go_wp2_with fail
      go_roundw
      case rel => exact ⟨k + q, _, by omega, hq2, by go_num, hg4, HN1, hHeld4⟩
      case measure => simp [intOf]; omega
    · obtain rfl : k = m := by omega
      have hLk : L = tcells (List.replicate k s) := by
        rw [← rep_cells, ← hL.out.2, List.take_of_length_le (by rw [hL.out.1]; exact Nat.le_refl _)]
      have hR : RowT v (some ⟨w0.heap.size, 0, none⟩) k (List.replicate k s) := ⟨fun _ => ⟨w0.heap.size, 0, rfl, (Array.getElem?_eq_some_iff.1 hg.out).1, fun j u hu => by
        rw [Nat.zero_add, cell_of_row v _ j _ 9 (0, 0) hg.out, hLk]
        simpa using hu⟩, fun h => by simp at h, by rw [List.length_replicate]; exact Nat.le_refl _⟩
      have HR := Lib.hid hR
      have HB := Lib.hid hB
      clear hR hLk hg hL hB
      go_wp2_with fail
      exact bodyPost_ret (v := .slice (some ⟨w0.heap.size, 0, none⟩) k k) (by simp [results, Try.results32, go_sem]) rfl ⟨_, rfl, HR.out, fun b hb => by simp only [Option.map_some, Option.some.injEq] at hb; omega, HB.out⟩
end Go.Proofs.Ytpkoonokagchgaa
