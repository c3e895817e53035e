/- What the document's own 'figures' answers at two, four and six figures, and its Text where a date isn't right. No conditions. -/
import Derived.Test.YtameffdjjcpbkaaDoorRefFigs
import Derived.Test.YtameffdjjcpbkaaDoorRef
namespace Go.Proofs.YtameffdjjcpbkaaDoor
open Go.ChangeShapes Go.WideShapes Go.ChangeAt Go.RowKit

theorem rfig_t {n : Int} {k : Nat} {w : World} {A : ByteArray} (h : bytes (pad k n.toNat) = A) (h0 : 0 ≤ n) (hk6 : k ≤ 6) (hn : n < 1000000) :
    Calls Tryd.prog 32 #[.int .i64 n, .int .i64 k] w fun e w' => e = .returned (.string A) ∧ Below w.heap.size w w' := by
  have := rfigures_any n.toNat k w (by omega) hk6
  rw [Int.toNat_of_nonneg h0, h] at this
  exact this
theorem rfig2_t {n : Int} {w : World} {A : ByteArray} (h : bytes (pad 2 n.toNat) = A) (h0 : 0 ≤ n) (hn : n < 1000000) :
    Calls Tryd.prog 32 #[.int .i64 n, .int .i64 2] w fun e w' => e = .returned (.string A) ∧ Below w.heap.size w w' := rfig_t (k := 2) h h0 (by decide) hn
theorem rfig4_t {n : Int} {w : World} {A : ByteArray} (h : bytes (pad 4 n.toNat) = A) (h0 : 0 ≤ n) (hn : n < 1000000) :
    Calls Tryd.prog 32 #[.int .i64 n, .int .i64 4] w fun e w' => e = .returned (.string A) ∧ Below w.heap.size w w' := rfig_t (k := 4) h h0 (by decide) hn
theorem rfig6_t {n : Int} {w : World} {A : ByteArray} (h : bytes (pad 6 n.toNat) = A) (h0 : 0 ≤ n) (hn : n < 1000000) :
    Calls Tryd.prog 32 #[.int .i64 n, .int .i64 6] w fun e w' => e = .returned (.string A) ∧ Below w.heap.size w w' := rfig_t (k := 6) h h0 (by decide) hn
theorem rtext_no (y m d h i s n z : Int) (w : World) (hr : rightB y m d h i s n z = false) :
    Calls Tryd.prog 23 #[.agg #[.int .i64 y, .int .i64 m, .int .i64 d, .int .i64 h, .int .i64 i, .int .i64 s, .int .i64 n, .int .i64 z]] w
      fun e w' => e = .returned (.tuple #[.string (bytes []), .int .i64 1]) ∧ Below w.heap.size w w' := by
  have hb : Below w.heap.size w (w.alloc (.cells #[.int .i64 y, .int .i64 m, .int .i64 d, .int .i64 h, .int .i64 i, .int .i64 s, .int .i64 n, .int .i64 z] 23)) := (Below.refl _ _).alloc (Nat.le_refl _) _
  go_enter Tryd.func23, Tryd.ntmps23
  go_wp2_with (go_at_call 19; refine (rright_any _ _ _ _ _ _ _ _ _).mono ?_; rintro e w' ⟨rfl, hb2⟩)
  go_ret2
  exact ⟨rfl, hb.trans (hb2.mono (by simp))⟩
end Go.Proofs.YtameffdjjcpbkaaDoor
