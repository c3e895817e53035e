/- What the document's own Same answers where one of the plain parts differs: no. -/
import Derived.Test.YtnaijahhogndjaaGreatDoorSameBase
namespace Go.Proofs.YtnaijahhogndjaaGreatDoor
open Go.ChangeShapes Go.WideShapes Go.ChangeAt Go.RowKit

set_option maxHeartbeats 8000000 in
set_option maxRecDepth 100000 in
theorem same_ne0 (g g' : Int) (f f' : Int) (t t' : Bool) (a a' : Int) (ho ho' : ByteArray) (ap ap' : ByteArray) (pr pr' : ByteArray) (id id' : ByteArray) (tx tx' : ByteArray) (la lb : Option Addr) (na nb ca cb : Nat) (w : World) (hne : g ≠ g') :
    Calls Tryz.prog 22 #[.agg #[.int .i64 g, .int .i64 f, .bool t, .int .i64 a, .string ho, .string ap, .string pr, .string id, .slice la na ca, .string tx], .agg #[.int .i64 g', .int .i64 f', .bool t', .int .i64 a', .string ho', .string ap', .string pr', .string id', .slice lb nb cb, .string tx']] w
      fun e w' => e = .returned (.bool false) ∧ Below w.heap.size w w' := by
  have hb0 : ∀ o1 o2 : Obj, Below w.heap.size w ((w.alloc o1).alloc o2) := fun _ _ => ((Below.refl _ _).alloc (Nat.le_refl _) _).alloc (by simp) _
  have q : (g != g') = true := by rw [bne, beq_eq_false_iff_ne.2 hne]; rfl
  clear hne
  go_enter Tryz.func22, Tryz.ntmps22
  go_wp2
  go_ret
  exact ⟨rfl, hb0 _ _⟩
set_option maxHeartbeats 8000000 in
set_option maxRecDepth 100000 in
theorem same_ne1 (g : Int) (f f' : Int) (t t' : Bool) (a a' : Int) (ho ho' : ByteArray) (ap ap' : ByteArray) (pr pr' : ByteArray) (id id' : ByteArray) (tx tx' : ByteArray) (la lb : Option Addr) (na nb ca cb : Nat) (w : World) (hne : f ≠ f') :
    Calls Tryz.prog 22 #[.agg #[.int .i64 g, .int .i64 f, .bool t, .int .i64 a, .string ho, .string ap, .string pr, .string id, .slice la na ca, .string tx], .agg #[.int .i64 g, .int .i64 f', .bool t', .int .i64 a', .string ho', .string ap', .string pr', .string id', .slice lb nb cb, .string tx']] w
      fun e w' => e = .returned (.bool false) ∧ Below w.heap.size w w' := by
  have hb0 : ∀ o1 o2 : Obj, Below w.heap.size w ((w.alloc o1).alloc o2) := fun _ _ => ((Below.refl _ _).alloc (Nat.le_refl _) _).alloc (by simp) _
  have q : (f != f') = true := by rw [bne, beq_eq_false_iff_ne.2 hne]; rfl
  clear hne
  go_enter Tryz.func22, Tryz.ntmps22
  go_wp2
  go_ret
  exact ⟨rfl, hb0 _ _⟩
set_option maxHeartbeats 8000000 in
set_option maxRecDepth 100000 in
theorem same_ne2 (g : Int) (f : Int) (t t' : Bool) (a a' : Int) (ho ho' : ByteArray) (ap ap' : ByteArray) (pr pr' : ByteArray) (id id' : ByteArray) (tx tx' : ByteArray) (la lb : Option Addr) (na nb ca cb : Nat) (w : World) (hne : t ≠ t') :
    Calls Tryz.prog 22 #[.agg #[.int .i64 g, .int .i64 f, .bool t, .int .i64 a, .string ho, .string ap, .string pr, .string id, .slice la na ca, .string tx], .agg #[.int .i64 g, .int .i64 f, .bool t', .int .i64 a', .string ho', .string ap', .string pr', .string id', .slice lb nb cb, .string tx']] w
      fun e w' => e = .returned (.bool false) ∧ Below w.heap.size w w' := by
  have hb0 : ∀ o1 o2 : Obj, Below w.heap.size w ((w.alloc o1).alloc o2) := fun _ _ => ((Below.refl _ _).alloc (Nat.le_refl _) _).alloc (by simp) _
  rcases (show (t = true ∧ t' = false) ∨ (t = false ∧ t' = true) by revert hne; cases t <;> cases t' <;> simp) with ⟨rfl, rfl⟩ | ⟨rfl, rfl⟩
  · clear hne
    go_enter Tryz.func22, Tryz.ntmps22
    go_wp2
    go_ret
    exact ⟨rfl, hb0 _ _⟩
  · clear hne
    go_enter Tryz.func22, Tryz.ntmps22
    go_wp2
    go_ret
    exact ⟨rfl, hb0 _ _⟩
set_option maxHeartbeats 8000000 in
set_option maxRecDepth 100000 in
theorem same_ne3 (g : Int) (f : Int) (t : Bool) (a a' : Int) (ho ho' : ByteArray) (ap ap' : ByteArray) (pr pr' : ByteArray) (id id' : ByteArray) (tx tx' : ByteArray) (la lb : Option Addr) (na nb ca cb : Nat) (w : World) (hne : a ≠ a') :
    Calls Tryz.prog 22 #[.agg #[.int .i64 g, .int .i64 f, .bool t, .int .i64 a, .string ho, .string ap, .string pr, .string id, .slice la na ca, .string tx], .agg #[.int .i64 g, .int .i64 f, .bool t, .int .i64 a', .string ho', .string ap', .string pr', .string id', .slice lb nb cb, .string tx']] w
      fun e w' => e = .returned (.bool false) ∧ Below w.heap.size w w' := by
  have hb0 : ∀ o1 o2 : Obj, Below w.heap.size w ((w.alloc o1).alloc o2) := fun _ _ => ((Below.refl _ _).alloc (Nat.le_refl _) _).alloc (by simp) _
  have q : (a != a') = true := by rw [bne, beq_eq_false_iff_ne.2 hne]; rfl
  clear hne
  go_enter Tryz.func22, Tryz.ntmps22
  go_wp2
  go_ret
  exact ⟨rfl, hb0 _ _⟩
set_option maxHeartbeats 8000000 in
set_option maxRecDepth 100000 in
theorem same_ne4 (g : Int) (f : Int) (t : Bool) (a : Int) (ho ho' : ByteArray) (ap ap' : ByteArray) (pr pr' : ByteArray) (id id' : ByteArray) (tx tx' : ByteArray) (la lb : Option Addr) (na nb ca cb : Nat) (w : World) (hne : ho ≠ ho') :
    Calls Tryz.prog 22 #[.agg #[.int .i64 g, .int .i64 f, .bool t, .int .i64 a, .string ho, .string ap, .string pr, .string id, .slice la na ca, .string tx], .agg #[.int .i64 g, .int .i64 f, .bool t, .int .i64 a, .string ho', .string ap', .string pr', .string id', .slice lb nb cb, .string tx']] w
      fun e w' => e = .returned (.bool false) ∧ Below w.heap.size w w' := by
  have hb0 : ∀ o1 o2 : Obj, Below w.heap.size w ((w.alloc o1).alloc o2) := fun _ _ => ((Below.refl _ _).alloc (Nat.le_refl _) _).alloc (by simp) _
  have q := toList_other hne
  clear hne
  go_enter Tryz.func22, Tryz.ntmps22
  go_wp2
  go_ret
  exact ⟨rfl, hb0 _ _⟩
end Go.Proofs.YtnaijahhogndjaaGreatDoor
