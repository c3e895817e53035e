/- GrowCovers, walked: every m, every n. -/
import Derived.Test.YtdmaipebckbmpaaCover
import Derived.Test.YtdmaipebckbmpaaTwo
import Derived.Deep.RegionWith
namespace Go.Proofs.Ytdmaipebckbmpaa
open Go.ChangeShapes Go.WideShapes Go.ChangeAt Go.RowKit

theorem below_trans {a b c : World} (h : Below a.heap.size a b) (k : Below b.heap.size b c) : Below a.heap.size a c := h.trans (k.mono h.size)
theorem cv_six : cv 6 11 = [2, 2, 1] := by
  rw [cv_more (by decide), show lg 6 (11 - 6) = 2 by decide +kernel, cv_more (by decide), show lg (6 + 2) (11 - (6 + 2)) = 2 by decide +kernel, cv_more (by decide), show lg (6 + 2 + 2) (11 - (6 + 2 + 2)) = 1 by decide +kernel, cv_few (by decide)]
theorem cv_zero : cv 0 5 = [4, 1] := by
  rw [cv_more (by decide), show lg 0 (5 - 0) = 4 by decide +kernel, cv_more (by decide), show lg (0 + 4) (5 - (0 + 4)) = 1 by decide +kernel, cv_few (by decide)]

theorem own_some {W : World} {base : Nat} {e : TypeId} {size : Nat} {v : Value} {n : Nat} {xs : List Value} (h : W.ownsRow base e size v n xs) (hn : 0 < n) : ∃ g c, v = .slice (some ⟨g, 0, none⟩) n c ∧ base ≤ g ∧ g < W.heap.size := by
  rcases h.2 with ⟨_, rfl⟩ | ⟨g, cap, cur, h1, hb, hg, _⟩
  · omega
  · exact ⟨g, cap, h1, hb, (Array.getElem?_eq_some_iff.1 hg).1⟩
/-- The row's cells, in every later world. -/
theorem row_cell {W W' : World} {base : Nat} {g c n : Nat} {l : List Nat} (h : W.ownsRow base 3 1 (.slice (some ⟨g, 0, none⟩) n c) n (nums l)) (hb : Below W.heap.size W W') {k x : Nat} (hk : l[k]? = some x) (hg : g < W.heap.size) :
    W'.cell? ⟨g, k, none⟩ = some (.int .i64 ((x : Nat) : Int)) := by
  have hkl : k < l.length := (List.getElem?_eq_some_iff.1 hk).1
  have hn : n = l.length := by have := h.1; rw [nums_length] at this; omega
  rw [hb.cell (p := ⟨g, k, none⟩) hg, h.cellAt k (by omega)]
  simp [nums, hk]

set_option maxHeartbeats 2000000 in
set_option maxRecDepth 100000 in
theorem shown_any (w : World) : Calls Try.prog 4 #[] w fun e w' => e = .returned (.bool true) ∧ Below w.heap.size w w' := by
  have HA : Hid (∀ w, Calls Try.prog 5 #[.int .i64 6, .int .i64 11] w fun e w' => ∃ g c, e = .returned (.slice (some ⟨g, 0, none⟩) 3 c) ∧ w'.cell? ⟨g, 0, none⟩ = some (.int .i64 2) ∧ w'.cell? ⟨g, 1, none⟩ = some (.int .i64 2) ∧ w'.cell? ⟨g, 2, none⟩ = some (.int .i64 1) ∧ g < w'.heap.size ∧ Below w.heap.size w w') := Lib.hid fun w => by
    refine (cover_yes 6 11 (by decide) (by decide) w).mono ?_
    rintro e w' ⟨v, rfl, hown, hb⟩
    rw [cv_six] at hown
    obtain ⟨g, c, rfl, hg1, hg2⟩ := own_some hown (by decide)
    exact ⟨g, c, rfl, row_cell hown (Below.refl _ _) (k := 0) (x := 2) rfl hg2, row_cell hown (Below.refl _ _) (k := 1) (x := 2) rfl hg2, row_cell hown (Below.refl _ _) (k := 2) (x := 1) rfl hg2, hg2, hb⟩
  have HB : Hid (∀ w, Calls Try.prog 5 #[.int .i64 0, .int .i64 5] w fun e w' => ∃ g c, e = .returned (.slice (some ⟨g, 0, none⟩) 2 c) ∧ w'.cell? ⟨g, 0, none⟩ = some (.int .i64 4) ∧ w'.cell? ⟨g, 1, none⟩ = some (.int .i64 1) ∧ Below w.heap.size w w') := Lib.hid fun w => by
    refine (cover_yes 0 5 (by decide) (by decide) w).mono ?_
    rintro e w' ⟨v, rfl, hown, hb⟩
    rw [cv_zero] at hown
    obtain ⟨g, c, rfl, hg1, hg2⟩ := own_some hown (by decide)
    exact ⟨g, c, rfl, row_cell hown (Below.refl _ _) (k := 0) (x := 4) rfl hg2, row_cell hown (Below.refl _ _) (k := 1) (x := 1) rfl hg2, hb⟩
  go_enter Try.func4, Try.ntmps4
  go_wp2_with (first
    | (go_at_call 5; refine (HA.out _).mono ?_; rintro e w1 ⟨g, c, rfl, a0, a1, a2, hg, hb1⟩; clear HA)
    | (go_at_call 5; refine (HB.out _).mono ?_; rintro e w2 ⟨g2, c2, rfl, b0, b1, hb2⟩; clear HB; rw [← hb2.cell (p := ⟨g, 0, none⟩) hg] at a0; rw [← hb2.cell (p := ⟨g, 1, none⟩) hg] at a1; rw [← hb2.cell (p := ⟨g, 2, none⟩) hg] at a2))
  go_ret
  exact ⟨rfl, below_trans hb1 hb2⟩

set_option maxHeartbeats 4000000 in
set_option maxRecDepth 100000 in
theorem walk_no (m n : Int) (h : m < 0 ∨ n < m ∨ 4096 < n) (w : World) :
    Calls Try.prog 3 #[.int .i64 m, .int .i64 n] w fun e w' => e = .returned (.bool true) ∧ Below w.heap.size w w' := by
  have HSH := Lib.hid (fun w => shown_any w)
  have HCO := Lib.hid (cover_no m n h)
  by_cases h1 : m < 0
  · go_enter Try.func3, Try.ntmps3
    go_wp2_with (first
      | (go_at_call 4; refine (HSH.out _).mono ?_; rintro e w1 ⟨rfl, hb1⟩)
      | (go_at_call 5; refine (HCO.out _).mono ?_; rintro e w2 ⟨rfl, hw⟩; obtain rfl := hw.symm; clear hw))
    go_ret
    exact ⟨rfl, hb1⟩
  · by_cases h2 : n < m
    · go_enter Try.func3, Try.ntmps3
      go_wp2_with (first
        | (go_at_call 4; refine (HSH.out _).mono ?_; rintro e w1 ⟨rfl, hb1⟩)
        | (go_at_call 5; refine (HCO.out _).mono ?_; rintro e w2 ⟨rfl, hw⟩; obtain rfl := hw.symm; clear hw))
      go_ret
      exact ⟨rfl, hb1⟩
    · have h3 : 4096 < n := by omega
      go_enter Try.func3, Try.ntmps3
      go_wp2_with (first
        | (go_at_call 4; refine (HSH.out _).mono ?_; rintro e w1 ⟨rfl, hb1⟩)
        | (go_at_call 5; refine (HCO.out _).mono ?_; rintro e w2 ⟨rfl, hw⟩; obtain rfl := hw.symm; clear hw))
      go_ret
      exact ⟨rfl, hb1⟩

set_option maxHeartbeats 4000000 in
set_option maxRecDepth 100000 in
theorem walk_yes (m n : Nat) (hmn : m ≤ n) (hT : n ≤ 4096) (w : World) :
    Calls Try.prog 3 #[.int .i64 (m : Int), .int .i64 (n : Int)] w fun e w' => e = .returned (.bool true) ∧ Below w.heap.size w w' := by
  have HSH := Lib.hid (fun w => shown_any w)
  have HCO := Lib.hid (fun w => cover_yes m n hmn hT w)
  have HLE := Lib.hid (cv_len m n hT)
  have HPL : Hid (∀ k, k < (cv m n).length → ∃ j, j < 63 ∧ (cv m n)[k]? = some (2 ^ j) ∧ pl m n (k + 1) = pl m n k + 2 ^ j ∧ 2 ^ j ∣ pl m n k ∧ pl m n (k + 1) ≤ n) := Lib.hid fun k hk => by
    obtain ⟨h1, h2, h3⟩ := cv_step m n k hmn hk
    have h4 := (cv_at m n hmn (k + 1) (by omega)).2
    obtain ⟨j, e, _, _⟩ := lg_any (pl m n k) (n - pl m n k)
    have h5 := lg_dvd (pl m n k) (n - pl m n k)
    have h6 := lg_le (pl m n k) (n - pl m n k) (by omega)
    rw [e] at h2 h3 h5 h6
    refine ⟨j, ?_, h2, h3, h5, h4⟩
    refine Decidable.byContradiction fun hn => ?_
    have : 2 ^ 63 ≤ 2 ^ j := Nat.pow_le_pow_right (by decide) (by omega)
    omega
  have HZ := Lib.hid (pl_zero m n)
  have HE := Lib.hid (cv_end m n hmn)
  have HTP := Lib.hid two_pow
  generalize pl m n = p at *
  generalize cv m n = L at *
  go_enter Try.func3, Try.ntmps3
  go_wp2_with (first
    | (go_at_call 4; refine (HSH.out _).mono ?_; rintro e w1 ⟨rfl, hb1⟩)
    | (go_at_call 5; refine (HCO.out _).mono ?_; rintro e w3 ⟨v, rfl, hown, hb3⟩; obtain ⟨A, c, rfl⟩ := own_slice hown))
  have HB3 := Lib.hid (below_trans hb1 hb3)
  have HO := Lib.hid hown
  clear hown hb1 hb3
  rename (_ ∧ _) ∧ _ => hcond
  clear hcond hmn
  generalize hm : L.length = q at *
  have HM := Lib.hid hm
  clear hm
  go_loopw [7, 8] (fun s i wr => ∃ k : Nat, k ≤ q ∧ s = .int .i64 ((p k : Nat) : Int) ∧ i = .int .i64 ((k : Nat) : Int) ∧ w3 = wr) (fun _ i _ => q - (intOf i).toNat)
  case atStart => exact ⟨0, Nat.zero_le _, by rw [HZ.out], rfl, rfl⟩
  case round =>
    obtain ⟨k, hk, rfl, rfl, rfl⟩ := hrel
    by_cases hlt : k < q
    · obtain ⟨j, hj, hx, hp1, hpd, hpn⟩ := HPL.out k hlt
      obtain ⟨g, c', he, hg1, hg2⟩ := own_some HO.out (by omega)
      simp only [Value.slice.injEq, true_and] at he
      obtain ⟨rfl, rfl⟩ := he
      have c0 := row_cell HO.out (Below.refl _ _) hx hg2
      have HT := Lib.hid (HTP.out j hj)
      have hx0 : 0 < 2 ^ j := Nat.two_pow_pos j
      rw [hp1] at hpn
      have HP1 := Lib.hid hp1
      clear hp1
      generalize 2 ^ j = x at *
      have hrem : ((p k : Nat) : Int).tmod (x : Int) = 0 := by
        obtain ⟨r, hr⟩ := hpd
        rw [hr]
        simp
      generalize p k = y at *
      have hq25 := HLE.out
      clear HPL HTP hpd
      go_wp2_with (go_at_call 6; refine (HT.out _).mono ?_; rintro e w4 ⟨rfl, hw⟩; obtain rfl := hw.symm; clear hw)
      go_roundw
      case rel => exact ⟨k + 1, by omega, by rw [HP1.out]; go_num, by go_num, True.intro⟩
      case measure => simp [intOf]; omega
    · obtain rfl : k = q := by omega
      have hq := HLE.out
      have hpq := HE.out
      rw [hpq]
      go_wp2
      go_ret
      refine ⟨?_, HB3.out⟩
      show Ending.returned (.bool (decide ((k : Int) ≤ 26))) = _
      rw [decide_eq_true (by omega)]

theorem walk (m n : Int) (w : World) :
    Calls Try.prog 3 #[.int .i64 m, .int .i64 n] w fun e w' => e = .returned (.bool true) ∧ Below w.heap.size w w' := by
  by_cases h : m < 0 ∨ n < m ∨ 4096 < n
  · exact walk_no m n h w
  · have h1 : 0 ≤ m := by omega
    have h2 : 0 ≤ n := by omega
    obtain ⟨a, rfl⟩ := Int.eq_ofNat_of_zero_le h1
    obtain ⟨b, rfl⟩ := Int.eq_ofNat_of_zero_le h2
    exact walk_yes a b (by omega) (by omega) w
end Go.Proofs.Ytdmaipebckbmpaa
