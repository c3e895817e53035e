/- What the document's own Same answers where one of the plain parts differs: no. -/
import Derived.Test.YtnaijahhogndjaaGreatDoorSameBase
namespace Go.Proofs.YtnaijahhogndjaaGreatDoor
open Go.ChangeShapes Go.WideShapes Go.ChangeAt Go.RowKit

set_option maxHeartbeats 8000000 in
set_option maxRecDepth 100000 in
theorem same_ne5 (g : Int) (f : Int) (t : Bool) (a : Int) (ho : ByteArray) (ap ap' : ByteArray) (pr pr' : ByteArray) (id id' : ByteArray) (tx tx' : ByteArray) (la lb : Option Addr) (na nb ca cb : Nat) (w : World) (hne : ap ≠ ap') :
    Calls Tryz.prog 22 #[.agg #[.int .i64 g, .int .i64 f, .bool t, .int .i64 a, .string ho, .string ap, .string pr, .string id, .slice la na ca, .string tx], .agg #[.int .i64 g, .int .i64 f, .bool t, .int .i64 a, .string ho, .string ap', .string pr', .string id', .slice lb nb cb, .string tx']] w
      fun e w' => e = .returned (.bool false) ∧ Below w.heap.size w w' := by
  have hb0 : ∀ o1 o2 : Obj, Below w.heap.size w ((w.alloc o1).alloc o2) := fun _ _ => ((Below.refl _ _).alloc (Nat.le_refl _) _).alloc (by simp) _
  have e4 := toList_same ho
  have q := toList_other hne
  clear hne
  go_enter Tryz.func22, Tryz.ntmps22
  go_wp2
  go_ret
  exact ⟨rfl, hb0 _ _⟩
set_option maxHeartbeats 8000000 in
set_option maxRecDepth 100000 in
theorem same_ne6 (g : Int) (f : Int) (t : Bool) (a : Int) (ho : ByteArray) (ap : ByteArray) (pr pr' : ByteArray) (id id' : ByteArray) (tx tx' : ByteArray) (la lb : Option Addr) (na nb ca cb : Nat) (w : World) (hne : pr ≠ pr') :
    Calls Tryz.prog 22 #[.agg #[.int .i64 g, .int .i64 f, .bool t, .int .i64 a, .string ho, .string ap, .string pr, .string id, .slice la na ca, .string tx], .agg #[.int .i64 g, .int .i64 f, .bool t, .int .i64 a, .string ho, .string ap, .string pr', .string id', .slice lb nb cb, .string tx']] w
      fun e w' => e = .returned (.bool false) ∧ Below w.heap.size w w' := by
  have hb0 : ∀ o1 o2 : Obj, Below w.heap.size w ((w.alloc o1).alloc o2) := fun _ _ => ((Below.refl _ _).alloc (Nat.le_refl _) _).alloc (by simp) _
  have e4 := toList_same ho
  have e5 := toList_same ap
  have q := toList_other hne
  clear hne
  go_enter Tryz.func22, Tryz.ntmps22
  go_wp2
  go_ret
  exact ⟨rfl, hb0 _ _⟩
set_option maxHeartbeats 8000000 in
set_option maxRecDepth 100000 in
theorem same_ne7 (g : Int) (f : Int) (t : Bool) (a : Int) (ho : ByteArray) (ap : ByteArray) (pr : ByteArray) (id id' : ByteArray) (tx tx' : ByteArray) (la lb : Option Addr) (na nb ca cb : Nat) (w : World) (hne : id ≠ id') :
    Calls Tryz.prog 22 #[.agg #[.int .i64 g, .int .i64 f, .bool t, .int .i64 a, .string ho, .string ap, .string pr, .string id, .slice la na ca, .string tx], .agg #[.int .i64 g, .int .i64 f, .bool t, .int .i64 a, .string ho, .string ap, .string pr, .string id', .slice lb nb cb, .string tx']] w
      fun e w' => e = .returned (.bool false) ∧ Below w.heap.size w w' := by
  have hb0 : ∀ o1 o2 : Obj, Below w.heap.size w ((w.alloc o1).alloc o2) := fun _ _ => ((Below.refl _ _).alloc (Nat.le_refl _) _).alloc (by simp) _
  have e4 := toList_same ho
  have e5 := toList_same ap
  have e6 := toList_same pr
  have q := toList_other hne
  clear hne
  go_enter Tryz.func22, Tryz.ntmps22
  go_wp2
  go_ret
  exact ⟨rfl, hb0 _ _⟩
set_option maxHeartbeats 8000000 in
set_option maxRecDepth 100000 in
theorem same_ne8 (g : Int) (f : Int) (t : Bool) (a : Int) (ho : ByteArray) (ap : ByteArray) (pr : ByteArray) (id : ByteArray) (tx tx' : ByteArray) (la lb : Option Addr) (na nb ca cb : Nat) (w : World) (hne : tx ≠ tx') :
    Calls Tryz.prog 22 #[.agg #[.int .i64 g, .int .i64 f, .bool t, .int .i64 a, .string ho, .string ap, .string pr, .string id, .slice la na ca, .string tx], .agg #[.int .i64 g, .int .i64 f, .bool t, .int .i64 a, .string ho, .string ap, .string pr, .string id, .slice lb nb cb, .string tx']] w
      fun e w' => e = .returned (.bool false) ∧ Below w.heap.size w w' := by
  have hb0 : ∀ o1 o2 : Obj, Below w.heap.size w ((w.alloc o1).alloc o2) := fun _ _ => ((Below.refl _ _).alloc (Nat.le_refl _) _).alloc (by simp) _
  have e4 := toList_same ho
  have e5 := toList_same ap
  have e6 := toList_same pr
  have e7 := toList_same id
  have q := toList_other hne
  clear hne
  go_enter Tryz.func22, Tryz.ntmps22
  go_wp2
  go_ret
  exact ⟨rfl, hb0 _ _⟩
end Go.Proofs.YtnaijahhogndjaaGreatDoor
