/- What TreeHalves answers, for every number: true. -/
import Derived.Test.YtpgdiaihcfnpbacSizes
import Derived.Deep.RegionWith
namespace Go.Proofs.Ytpgdiaihcfnpbac
open Go.ChangeShapes Go.WideShapes Go.ChangeAt Go.RowKit

theorem sz_six : sz 6 = [4, 2] := by
  have h4 : hi 6 = 4 := by decide +kernel
  have h2 : hi 2 = 2 := by decide +kernel
  rw [sz_pos 6 (by decide), h4, sz_pos (6 - 4) (by decide), show 6 - 4 = 2 from rfl, h2, show 2 - 2 = 0 from rfl, sz_zero]
theorem half_six : halfI 6 = 4 := by decide +kernel

theorem own_some {W : World} {base : Nat} {e : TypeId} {size : Nat} {A : Option Addr} {c n : Nat} {xs : List Value} (h : W.ownsRow base e size (.slice A n c) n xs) (hn : 0 < n) : ∃ g, A = some ⟨g, 0, none⟩ ∧ base ≤ g ∧ g < W.heap.size := by
  rcases h.2 with ⟨_, rfl⟩ | ⟨g, cap, cur, h1, hb, hg, _⟩
  · omega
  · simp only [Value.slice.injEq] at h1
    exact ⟨g, h1.1, hb, (Array.getElem?_eq_some_iff.1 hg).1⟩
/-- The row's cells, in every later world. -/
theorem row_cell {W W' : World} {base : Nat} {g c n : Nat} {l : List Nat} (h : W.ownsRow base 3 1 (.slice (some ⟨g, 0, none⟩) n c) n (nums l)) (hb : Below W.heap.size W W') {k x : Nat} (hk : l[k]? = some x) (hg : g < W.heap.size) :
    W'.cell? ⟨g, k, none⟩ = some (.int .i64 ((x : Nat) : Int)) := by
  have hkl : k < l.length := (List.getElem?_eq_some_iff.1 hk).1
  have hn : n = l.length := by have := h.1; rw [nums_length] at this; omega
  rw [hb.cell (p := ⟨g, k, none⟩) hg, h.cellAt k (by omega)]
  simp [nums, hk]

set_option maxHeartbeats 2000000 in
set_option maxRecDepth 100000 in
theorem shown_any (w : World) : Calls Try.prog 4 #[] w fun e w' => e = .returned (.bool true) ∧ Below w.heap.size w w' := by
  have HS := Lib.hid (fun w => sizes_any 6 (by decide) w)
  have HH := Lib.hid (fun w => half_any 6 (by decide) w)
  rw [show (6 : Int).toNat = 6 from rfl, sz_six] at HS
  rw [half_six] at HH
  go_enter Try.func4, Try.ntmps4
  go_wp2_with (first
    | (go_at_call 6; refine (HS.out _).mono ?_; rintro e w1 ⟨A, c, rfl, hown, hb⟩; obtain ⟨g, rfl, hg1, hg2⟩ := own_some hown (by decide); have c0 := row_cell hown (Below.refl _ _) (k := 0) (x := 4) rfl hg2; have c1 := row_cell hown (Below.refl _ _) (k := 1) (x := 2) rfl hg2; clear hown)
    | (go_at_call 5; refine (HH.out _).mono ?_; rintro e w2 ⟨rfl, hw⟩; obtain rfl := hw.symm))
  go_ret
  exact ⟨rfl, hb⟩
end Go.Proofs.Ytpgdiaihcfnpbac
