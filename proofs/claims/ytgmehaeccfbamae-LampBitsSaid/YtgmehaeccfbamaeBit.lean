/- What lamp.Bit answers. -/
import Derived.Test.YtgmehaeccfbamaeProg
import Derived.Test.YtgmehaeccfbamaeRows
import Derived.WalkKit
import Derived.ProofKit
import Derived.Lib.Hide
import Derived.Deep.QuietTactic
import Derived.BigQuiet
import Derived.Below
import Derived.RegionTactic
import Derived.BigRegion
import Derived.WalkMore
import Derived.Deep.RegionHeld3
import Derived.Deep.RegionWith
import Derived.Deep.WholeRow
namespace Go.Proofs.Ytgmehaeccfbamae
open Go.ChangeShapes Go.WideShapes Go.ChangeAt Go.RowKit

def cellsOf (h : List UInt8) : Array Value := (h.map fun c => Value.int .u8 ((c.toNat : Nat) : Int)).toArray
def bitN (h : List UInt8) (n : Nat) : Nat := (h.getD (n / 8) 0).toNat / 2 ^ (7 - n % 8) % 2
def bitI (h : List UInt8) (i : Int) : Int := if 0 ≤ i ∧ i < 256 then ((bitN h i.toNat : Nat) : Int) else 0
theorem and_one (x : Nat) (hx : x < 4294967296) : bits .and .i64 (wrap64 (x : Int)) 1 = ((x % 2 : Nat) : Int) := by
  rw [IntWalk.wrap64_in _ (by omega)]
  have e : bits .and .i64 (x : Int) 1 = IntKind.i64.wrap ((BitVec.ofInt 64 (x : Int) &&& BitVec.ofInt 64 1).toNat : Int) := rfl
  rw [e, BitVec.toNat_and]
  have h1 : (BitVec.ofInt 64 1).toNat = 2 ^ 1 - 1 := by decide
  rw [h1, Nat.and_two_pow_sub_one_eq_mod]
  have h2 : (BitVec.ofInt 64 (x : Int)).toNat = x := by rw [BitVec.toNat_ofInt]; omega
  rw [h2, IntWalk.i64_left, IntWalk.wrap64_in _ (by omega)]
set_option maxHeartbeats 4000000 in
set_option maxRecDepth 100000 in
theorem bit_in (h : List UInt8) (hl : h.length = 32) (n : Nat) (hn : n < 256) (w : World) :
    Calls Try.prog 5 #[.agg (cellsOf h), .int .i64 ((n : Nat) : Int)] w fun e w' => e = .returned (.int .i64 ((bitN h n : Nat) : Int)) ∧ Below w.heap.size w w' := by
  obtain ⟨c, hc⟩ : ∃ c, h[n / 8]? = some c := ⟨h[n / 8]'(by omega), List.getElem?_eq_getElem _⟩
  have hcell : (cellsOf h)[n / 8]? = some (.int .u8 ((c.toNat : Nat) : Int)) := by simp [cellsOf, hc]
  have hsz : (cellsOf h).size = 32 := by simp [cellsOf, hl]
  have hc256 := c.toNat_lt
  have hx : c.toNat / 2 ^ (7 - n % 8) < 4294967296 := Nat.lt_of_le_of_lt (Nat.div_le_self _ _) (by omega)
  have hb : bits .and .i64 (wrap64 (((c.toNat : Nat) : Int) / 2 ^ (7 - n % 8))) 1 = ((bitN h n : Nat) : Int) := by
    have e : (((c.toNat : Nat) : Int) / 2 ^ (7 - n % 8)) = ((c.toNat / 2 ^ (7 - n % 8) : Nat) : Int) := by simp
    rw [e, and_one _ hx]
    unfold bitN
    rw [List.getD_eq_getElem?_getD, hc]
    rfl
  have HB := Lib.hid hb
  clear hb hx hc
  go_enter Try.func5, Try.ntmps5
  go_wp2
  go_ret
  exact ⟨by rw [← HB.out]; rfl, (Below.refl _ _).alloc (Nat.le_refl _) _⟩
set_option maxHeartbeats 4000000 in
set_option maxRecDepth 100000 in
theorem bit_out (h : List UInt8) (i : Int) (hi : i < 0 ∨ 256 ≤ i) (w : World) :
    Calls Try.prog 5 #[.agg (cellsOf h), .int .i64 i] w fun e w' => e = .returned (.int .i64 0) ∧ Below w.heap.size w w' := by
  rcases hi with hi | hi
  · go_enter Try.func5, Try.ntmps5
    go_wp2
    go_ret
    exact ⟨rfl, (Below.refl _ _).alloc (Nat.le_refl _) _⟩
  · go_enter Try.func5, Try.ntmps5
    go_wp2
    go_ret
    exact ⟨rfl, (Below.refl _ _).alloc (Nat.le_refl _) _⟩
set_option maxHeartbeats 4000000 in
set_option maxRecDepth 100000 in
theorem nearest_one (w : World) : Calls Try.prog 8 #[.agg #[.string ⟨#[]⟩, .int .i64 0, .int .i64 1]] w fun e w' => e = .returned (.agg #[.string ⟨#[]⟩, .int .i64 0, .int .i64 1]) ∧ Below w.heap.size w w' := by
  go_enter Try.func8, Try.ntmps8
  go_wp2
  go_region
  go_wp2
  refine bodyPost_ret (v := .agg #[.string ⟨#[]⟩, .int .i64 0, .int .i64 1]) (by simp [results, Try.results8, go_sem]; rfl) rfl ⟨rfl, ?_⟩
  exact (((Below.refl _ _).alloc (Nat.le_refl _) _).alloc (by simp) _).drew
theorem bcell {W W' : World} (hb : Below W.heap.size W W') : (∀ b o, b < W.heap.size → W'.cell? ⟨b, o, none⟩ = W.cell? ⟨b, o, none⟩) ∧ (∀ b o, b < W.heap.size → W'.frozen? ⟨b, o, none⟩ = W.frozen? ⟨b, o, none⟩) :=
  ⟨fun _ _ h => hb.cell (p := ⟨_, _, none⟩) h, fun _ _ h => hb.frozen (p := ⟨_, _, none⟩) h⟩
theorem below1 {w w1 : World} {o : Obj} (hb : Below (w.alloc o).drew.heap.size (w.alloc o).drew w1) (j : Nat) : w1.cell? ⟨w.heap.size, j, none⟩ = (w.alloc o).cell? ⟨w.heap.size, j, none⟩ :=
  (bcell hb).1 _ _ (by show w.heap.size < (w.alloc o).heap.size; simp)
abbrev K1 (b : Nat) (w : World) : Prop := w.cell? ⟨b, 0, none⟩ = some (.string ⟨#[]⟩) ∧ w.cell? ⟨b, 1, none⟩ = some (.int .i64 0) ∧ w.cell? ⟨b, 2, none⟩ = some (.int .i64 1)
set_option maxHeartbeats 4000000 in
set_option maxRecDepth 100000 in
theorem right_one (w : World) : Calls Try.prog 7 #[.agg #[.string ⟨#[]⟩, .int .i64 0, .int .i64 1]] w fun e w' => e = .returned (.bool true) ∧ Below w.heap.size w w' := by
  have hb0 : Below w.heap.size w (w.alloc (.cells #[.string ⟨#[]⟩, .int .i64 0, .int .i64 1] 30)) := (Below.refl _ _).alloc (Nat.le_refl _) _
  go_enter Try.func7, Try.ntmps7
  go_wp2
  go_region_with (go_at_call 8; refine (nearest_one _).mono ?_; rintro e w1 ⟨rfl, hb1⟩; have d0 : w1.cell? ⟨w.heap.size, 0, none⟩ = some (.string ⟨#[]⟩) := (below1 hb1 0).trans (by simp [go_sem]); have d1 : w1.cell? ⟨w.heap.size, 1, none⟩ = some (.int .i64 0) := (below1 hb1 1).trans (by simp [go_sem]); have d2 : w1.cell? ⟨w.heap.size, 2, none⟩ = some (.int .i64 1) := (below1 hb1 2).trans (by simp [go_sem]))
  all_goals
    go_wp2
    go_ret
    exact ⟨rfl, (hb0.drew).trans (hb1.mono (by show w.heap.size ≤ (w.alloc _).heap.size; simp))⟩
end Go.Proofs.Ytgmehaeccfbamae
