/- What the document's own Right and few answer of a disk: whether it is right. -/
import Derived.Test.YtpkoonokagchgaaApply
namespace Go.Proofs.Ytpkoonokagchgaa
open Go.ChangeShapes Go.WideShapes Go.ChangeAt Go.RowKit

theorem not_of {R : Bool} {p : Prop} (h : R = true ↔ p) (hn : ¬ p) : R = false := by
  cases R
  · rfl
  · exact absurd (h.1 rfl) hn

set_option maxHeartbeats 8000000 in
set_option maxRecDepth 100000 in
theorem refRight_any (d : Dk) (R : Bool) (hR : R = true ↔ Ok d) (kA : Option Addr) (kc : Nat) (wA : Option Addr) (wc : Nat) (w : World) (hA : At w d kA kc wA wc) (hm : d.ws.length ≤ 4611686018427387904) :
    Calls Try.prog 29 #[dval d kA kc wA wc] w fun e w' => e = .returned (.bool R) ∧ Below w.heap.size w w' := by
  have HK := Lib.hid hA.rowT
  have HW := Lib.hid hA.rowW
  have HR := Lib.hid hR
  clear hA hR
  unfold dval
  generalize hn : d.ks.length = n at *
  generalize hmm : d.ws.length = m at *
  generalize hsz : d.sz = sz at *
  have HN := Lib.hid hn
  have HM := Lib.hid hmm
  have HZ := Lib.hid hsz
  clear hn hmm hsz
  by_cases h1 : sz < 96
  · obtain rfl := not_of HR.out (fun h => by have := h.s1; rw [HZ.out] at this; omega)
    go_enter Try.func29, Try.ntmps29
    go_wp2
    go_ret
    exact ⟨rfl, alloc_below _ _⟩
  by_cases h2 : 1024 < sz
  · obtain rfl := not_of HR.out (fun h => by have := h.s2; rw [HZ.out] at this; omega)
    go_enter Try.func29, Try.ntmps29
    go_wp2
    go_ret
    exact ⟨rfl, alloc_below _ _⟩
  by_cases h3 : n < 1
  · obtain rfl := not_of HR.out (fun h => by have := h.n1; rw [HN.out] at this; omega)
    go_enter Try.func29, Try.ntmps29
    go_wp2
    go_ret
    exact ⟨rfl, alloc_below _ _⟩
  by_cases h4 : 4096 < n
  · obtain rfl := not_of HR.out (fun h => by have := h.n2; rw [HN.out] at this; omega)
    go_enter Try.func29, Try.ntmps29
    go_wp2
    go_ret
    exact ⟨rfl, alloc_below _ _⟩
  have HB1 := Lib.hid (alloc_below w (.cells #[.int .i64 sz, .slice kA n kc, .slice wA m wc, .bool d.off] 25))
  have X1 := Lib.hid (Bx.new w 25 #[.int .i64 sz, .slice kA n kc, .slice wA m wc, .bool d.off])
  go_enter Try.func29, Try.ntmps29
  go_wp2
  generalize hw1 : w.alloc (.cells #[.int .i64 sz, .slice kA n kc, .slice wA m wc, .bool d.off] 25) = w1 at *
  clear hw1
  go_loopw [3] (fun i wr => ∃ k : Nat, k ≤ n ∧ i = .int .i64 k ∧ Hid (∀ j x, j < k → d.ks[j]? = some x → (x.size : Int) = sz) ∧ Below w1.heap.size w1 wr) (fun i _ => n - (intOf i).toNat)
  case atStart => exact ⟨0, Nat.zero_le _, rfl, Lib.hid (fun j x hj => absurd hj (by omega)), Below.refl _ _⟩
  case round =>
    rename World => v
    obtain ⟨k, hk, rfl, hall, hb⟩ := hrel
    by_cases hlt : k < n
    · have hkl : k < d.ks.length := by rw [HN.out]; exact hlt
      obtain ⟨b1, o1, rfl, hb1, hc1⟩ := ((HK.out.below HB1.out).below hb).cell hkl
      obtain ⟨x, hx⟩ : ∃ x, d.ks[k]? = some x := ⟨_, List.getElem?_eq_getElem hkl⟩
      have c1 := hc1 k x hx
      have HX := Lib.hid hx
      have g1 := (X1.out.below hb).cell 1 (v := .slice (some ⟨b1, o1, none⟩) n kc) rfl
      have g0 := (X1.out.below hb).cell 0 (v := .int .i64 sz) rfl
      clear hc1 hkl hx
      have d1 : v.drew.cell? ⟨b1, o1 + k, none⟩ = some (.string x) := c1
      have d2 : v.drew.cell? ⟨w.heap.size, 1, none⟩ = some (.slice (some ⟨b1, o1, none⟩) n kc) := g1
      have d3 : v.drew.cell? ⟨w.heap.size, 0, none⟩ = some (.int .i64 sz) := g0
      by_cases hs : (x.size : Int) = sz
      · have HA : Hid (∀ j y, j < k + 1 → d.ks[j]? = some y → (y.size : Int) = sz) := Lib.hid (fun j y hj hy => by
          by_cases hjk : j = k
          · subst hjk
            rw [HX.out] at hy
            simp only [Option.some.injEq] at hy
            subst hy
            exact hs
          · exact hall.out j y (by omega) hy)
        go_wp2
        go_region
        all_goals
          go_wp2
          go_roundw
          case rel => exact ⟨k + 1, by omega, by go_num, HA, below_trans hb (drew_below _)⟩
          case measure => simp [intOf]; omega
      · obtain rfl := not_of HR.out (fun h => by have := h.k x (List.mem_of_getElem? HX.out); rw [HZ.out] at this; omega)
        go_wp2
        go_region
        all_goals
          go_wp2
          go_ret
          exact ⟨rfl, below_trans HB1.out (below_trans hb (drew_below _))⟩
    · obtain rfl : k = n := by omega
      have g1 := (X1.out.below hb).cell 1 (v := .slice kA k kc) rfl
      have HKK : Hid (∀ x ∈ d.ks, (x.size : Int) = sz) := Lib.hid (fun x hx => by
        obtain ⟨j, hj, rfl⟩ := List.mem_iff_getElem.1 hx
        exact hall.out j _ (by rw [← HN.out]; exact hj) (List.getElem?_eq_getElem hj))
      clear hall
      have HB2 := Lib.hid (below_trans HB1.out hb)
      have X2 := Lib.hid (X1.out.below hb)
      clear hb
      go_wp2
      clear g1
      go_loopw [4] (fun i wr => ∃ j : Nat, j ≤ m ∧ i = .int .i64 j ∧ Hid (∀ t x, t < j → d.ws[t]? = some x → 0 ≤ x.p ∧ x.p < k ∧ 1 ≤ x.s.size ∧ (x.s.size : Int) ≤ sz) ∧ Below v.heap.size v wr) (fun i _ => m - (intOf i).toNat)
      case atStart => exact ⟨0, Nat.zero_le _, rfl, Lib.hid (fun j x hj => absurd hj (by omega)), Below.refl _ _⟩
      case round =>
        obtain ⟨j, hj, rfl, hall, hb⟩ := hrel
        by_cases hlt2 : j < m
        · have hkl : j < d.ws.length := by rw [HM.out]; exact hlt2
          obtain ⟨b1, o1, rfl, hb1, hc1⟩ := ((HW.out.below HB2.out).below hb).cell hkl
          obtain ⟨x, hx⟩ : ∃ x, d.ws[j]? = some x := ⟨_, List.getElem?_eq_getElem hkl⟩
          obtain ⟨c1, c2⟩ := hc1 j x hx
          have HX := Lib.hid hx
          have g2 := (X2.out.below hb).cell 2 (v := .slice (some ⟨b1, o1, none⟩) m wc) rfl
          have g1 : ∀ o, (wr.alloc o).cell? ⟨w.heap.size, 1, none⟩ = some (.slice kA k kc) := fun o => ((X2.out.below hb).below (alloc_below wr o)).cell 1 rfl
          have g0 : ∀ o, (wr.alloc o).cell? ⟨w.heap.size, 0, none⟩ = some (.int .i64 sz) := fun o => ((X2.out.below hb).below (alloc_below wr o)).cell 0 rfl
          clear hc1 hkl hx
          by_cases hs : 0 ≤ x.p ∧ x.p < k ∧ 1 ≤ x.s.size ∧ (x.s.size : Int) ≤ sz
          · have HA : Hid (∀ t y, t < j + 1 → d.ws[t]? = some y → 0 ≤ y.p ∧ y.p < k ∧ 1 ≤ y.s.size ∧ (y.s.size : Int) ≤ sz) := Lib.hid (fun t y ht hy => by
              by_cases hjk : t = j
              · subst hjk
                rw [HX.out] at hy
                simp only [Option.some.injEq] at hy
                subst hy
                exact hs
              · exact hall.out t y (by omega) hy)
            obtain ⟨s1, s2, s3, s4⟩ := hs
            have s3' : (1 : Int) ≤ (x.s.size : Int) := by omega
            clear s3
            go_wp2
            go_roundw
            case rel => exact ⟨j + 1, by omega, by go_num, HA, hb.alloc hb.size _⟩
            case measure => simp [intOf]; omega
          · obtain rfl := not_of HR.out (fun h => hs (by have := h.w x (List.mem_of_getElem? HX.out); rw [HZ.out, HN.out] at this; exact this))
            have HBF : ∀ o, Hid (Below w.heap.size w (wr.alloc o)) := fun o => Lib.hid (below_trans HB2.out (hb.alloc hb.size _))
            clear hb
            by_cases q1 : x.p < 0
            · go_wp2
              go_ret
              exact ⟨rfl, (HBF _).out⟩
            by_cases q2 : (k : Int) ≤ x.p
            · go_wp2
              go_ret
              exact ⟨rfl, (HBF _).out⟩
            by_cases q3 : (x.s.size : Int) < 1
            · go_wp2
              go_ret
              exact ⟨rfl, (HBF _).out⟩
            by_cases q4 : sz < (x.s.size : Int)
            · go_wp2
              go_ret
              exact ⟨rfl, (HBF _).out⟩
            · exact absurd ⟨by omega, by omega, by omega, by omega⟩ hs
        · obtain rfl : j = m := by omega
          have g2 := (X2.out.below hb).cell 2 (v := .slice wA j wc) rfl
          have hok : Ok d := ⟨by rw [HZ.out]; exact h1, by rw [HZ.out]; exact h2, by rw [HN.out]; omega, by rw [HN.out]; omega, fun x hx => by rw [HZ.out]; exact HKK.out x hx, fun x hx => by
            obtain ⟨t, ht, rfl⟩ := List.mem_iff_getElem.1 hx
            have := hall.out t _ (by rw [← HM.out]; exact ht) (List.getElem?_eq_getElem ht)
            rw [HZ.out, HN.out]
            exact this⟩
          have HOK := Lib.hid (HR.out.2 hok)
          clear hok hall
          go_wp2
          go_ret
          exact ⟨by rw [HOK.out]; rfl, below_trans HB2.out hb⟩

set_option maxHeartbeats 2000000 in
set_option maxRecDepth 100000 in
theorem few_any (d : Dk) (F : Bool) (hF : F = true ↔ d.ks.length ≤ 40 ∧ d.ws.length ≤ 40 ∧ Ok d) (kA : Option Addr) (kc : Nat) (wA : Option Addr) (wc : Nat) (w : World) (hA : At w d kA kc wA wc) :
    Calls Try.prog 14 #[dval d kA kc wA wc] w fun e w' => e = .returned (.bool F) ∧ Below w.heap.size w w' := by
  by_cases h1 : 40 < d.ks.length
  · obtain rfl := not_of hF (fun h => by omega)
    clear hA hF
    unfold dval
    generalize d.ks.length = n at *
    generalize d.ws.length = m at *
    go_enter Try.func14, Try.ntmps14
    go_wp2
    go_ret
    exact ⟨rfl, alloc_below _ _⟩
  by_cases h2 : 40 < d.ws.length
  · obtain rfl := not_of hF (fun h => by omega)
    clear hA hF
    unfold dval
    generalize d.ks.length = n at *
    generalize d.ws.length = m at *
    go_enter Try.func14, Try.ntmps14
    go_wp2
    go_ret
    exact ⟨rfl, alloc_below _ _⟩
  have hR : F = true ↔ Ok d := hF.trans ⟨fun h => h.2.2, fun h => ⟨by omega, by omega, h⟩⟩
  have HC : Hid (∀ o, Calls Try.prog 29 #[dval d kA kc wA wc] (w.alloc o) fun e w' => e = .returned (.bool F) ∧ Below (w.alloc o).heap.size (w.alloc o) w') := Lib.hid fun o => refRight_any d F hR kA kc wA wc _ (hA.below (alloc_below w o)) (by omega)
  clear hA hF hR
  unfold dval at *
  generalize d.ks.length = n at *
  generalize d.ws.length = m at *
  go_enter Try.func14, Try.ntmps14
  go_wp2_with fail
  refine (HC.out _).mono ?_
  rintro e w1 ⟨rfl, hb⟩
  go_wp2
  go_ret
  exact ⟨rfl, below_trans (alloc_below _ _) hb⟩
end Go.Proofs.Ytpkoonokagchgaa
