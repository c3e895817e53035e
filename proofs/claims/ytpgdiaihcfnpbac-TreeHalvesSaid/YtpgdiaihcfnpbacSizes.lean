/- What Sizes answers, for every number: a row of one's own of the powers of two. -/
import Derived.Test.YtpgdiaihcfnpbacBase
namespace Go.Proofs.Ytpgdiaihcfnpbac
open Go.ChangeShapes Go.WideShapes Go.ChangeAt Go.RowKit

def nums (l : List Nat) : List Value := l.map fun x => .int .i64 ((x : Nat) : Int)
theorem nums_length (l : List Nat) : (nums l).length = l.length := List.length_map ..
theorem nums_snoc (l : List Nat) (x : Nat) : nums l ++ [.int .i64 ((x : Nat) : Int)] = nums (l ++ [x]) := by simp [nums]
theorem alloc_below (w : World) (o : Obj) : Below w.heap.size w (w.alloc o) := (Below.refl _ _).alloc (Nat.le_refl _) _
theorem below_trans {a b c : World} (h : Below a.heap.size a b) (k : Below b.heap.size b c) : Below a.heap.size a c := h.trans (k.mono h.size)

theorem info3 : ∃ i, Try.prog.info? 3 = some i ∧ i.zero = some (.int .i64 0) ∧ i.size = 1 ∧ i.bytes = 8 := by
  have h : (Try.prog.info? 3).map (fun i => (i.zero, i.size, i.bytes)) = some (some (.int .i64 0), 1, 8) := by kernel_rfl
  cases hi : Try.prog.info? 3 with
  | none => rw [hi] at h; simp at h
  | some i => rw [hi] at h; simp only [Option.map_some, Option.some.injEq, Prod.mk.injEq] at h; exact ⟨i, rfl, h.1, h.2.1, h.2.2⟩
theorem own_slice {W : World} {base : Nat} {e : TypeId} {size : Nat} {v : Value} {n : Nat} {xs : List Value} (h : W.ownsRow base e size v n xs) : ∃ A c, v = .slice A n c := by
  rcases h.2 with ⟨rfl, rfl⟩ | ⟨g, cap, cur, rfl, _⟩
  · exact ⟨none, 0, rfl⟩
  · exact ⟨_, cap, rfl⟩
theorem add_plain (b off j : Nat) : (⟨b, off, none⟩ : Addr).add j = ⟨b, off + j, none⟩ := by
  unfold Addr.add
  split
  · simp_all
  · rfl
theorem cells_new (w : World) (cs : Array Value) (e : TypeId) : ∀ j u, cs.toList[j]? = some u → (w.alloc (.cells cs e)).cell? ((⟨w.heap.size, 0, none⟩ : Addr).add j) = some u := fun j u hu => by
  rw [add_plain, Nat.zero_add, cell_of_row _ _ _ cs e (0, 0) (heap_alloc_new w _)]
  rw [← hu]
  simp

set_option maxHeartbeats 2000000 in
set_option maxRecDepth 100000 in
theorem sizes_any (n : Int) (h : n < 9223372036854775808) (w : World) :
    Calls Try.prog 6 #[.int .i64 n] w fun e w' => ∃ A c, e = .returned (.slice A (sz n.toNat).length c) ∧ w'.ownsRow w.heap.size 3 1 (.slice A (sz n.toNat).length c) (sz n.toNat).length (nums (sz n.toNat)) ∧ Below w.heap.size w w' := by
  obtain ⟨i0, hi0, hz0, hs0, hb0⟩ := info3
  have HI := Lib.hid hi0
  have HI0 := Lib.hid hz0
  have HI1 := Lib.hid hs0
  have HI2 := Lib.hid hb0
  clear hi0 hz0 hs0 hb0
  have hlen : (sz n.toNat).length ≤ 63 := sz_length 63 _ (by omega)
  have HK : Hid (∀ z : Int, 0 < z → z ≤ n → ∀ w, Calls Try.prog 8 #[.int .i64 z] w fun e w' => e = .returned (.int .i64 ((hi z.toNat : Nat) : Int)) ∧ w = w') := Lib.hid fun z h1 h2 w => by
    have := highest_any z.toNat (by omega) (by omega) w
    rw [show ((z.toNat : Nat) : Int) = z by omega] at this
    exact this.mono fun e w' ⟨h1, h2⟩ => ⟨h1, h2.symm⟩
  generalize hN : sz n.toNat = N at *
  have HN := Lib.hid hN
  clear hN
  have HL := Lib.hid hlen
  clear hlen
  go_enter Try.func6, Try.ntmps6
  go_wp2_with fail
  go_loopw [3, 4] (fun v i wr => ∃ (z : Int) (l : List Nat) (A : Option Addr) (c : Nat), z ≤ n ∧ i = .int .i64 z ∧ v = .slice A l.length c ∧ Hid (l ++ sz z.toNat = N) ∧ Hid (wr.ownsRow w.heap.size 3 1 (.slice A l.length c) l.length (nums l)) ∧ Below w.heap.size w wr) (fun _ i _ => (intOf i).toNat)
  case atStart => exact ⟨n, [], none, 0, Int.le_refl _, rfl, rfl, Lib.hid HN.out, Lib.hid (World.ownsRow_nil _ _ _ _), Below.refl _ _⟩
  case round =>
    rename World => wr
    obtain ⟨z, l, A, c, hzn, rfl, rfl, hl, hown, hB⟩ := hrel
    by_cases hz : 0 < z
    · have hk0 : z.toNat ≠ 0 := by omega
      have hle : (hi z.toNat : Int) ≤ z := by have := hi_le z.toNat hk0; omega
      have hpos : (0 : Int) < hi z.toNat := by have := hi_pos z.toNat; omega
      have HE : Hid ((l ++ [hi z.toNat]) ++ sz (z - (hi z.toNat : Nat)).toNat = N) := Lib.hid (by
        have := hl.out
        rw [sz_pos z.toNat hk0] at this
        rw [← this, List.append_assoc]
        simp only [List.singleton_append]
        rw [show (z - (hi z.toNat : Nat)).toNat = z.toNat - hi z.toNat by omega])
      have hll : l.length ≤ 62 := by
        have h1 := congrArg List.length HE.out
        have h2 := HL.out
        simp only [List.length_append, List.length_singleton] at h1
        omega
      have hlt := hown.out.lt
      have HS := Lib.hid (nums_snoc l (hi z.toNat))
      have HLN : Hid ((l ++ [hi z.toNat]).length = l.length + 1) := Lib.hid (by simp)
      have HR := Lib.hid (HK.out z hz hzn)
      clear hl
      generalize hi z.toNat = x at *
      generalize hlm : l.length = m at *
      have HM := Lib.hid hlm
      clear hlm hk0
      go_wp2_with (first
        | (go_at_call 8; refine (HR.out _).mono ?_; rintro e w1 ⟨rfl, rfl⟩)
        | (at_builtin
           refine wpList_append_own _ rfl _ _ 24 rfl w.heap.size 3 i0 (.int .i64 0) 1 8 Try.underlying24 HI.out HI0.out HI1.out HI2.out rfl (by decide) (.slice A m c) m (nums l) rfl (hown.out.alloc _) ⟨wr.heap.size, 0, none⟩ 1 1 [.int .i64 (x : Int)] rfl rfl (cells_new wr #[.int .i64 (x : Int)] 3) (by simp [Value.oneCell']) (by unfold maxLen; omega) (by omega) (by have := hB.size; simp; omega) ?_
           intro v' w4 hown' hgrow _
           obtain ⟨A4, c4, rfl⟩ := own_slice hown'
           have B4 : Below w.heap.size w w4 := (hB.trans ((alloc_below wr _).mono hB.size)).grown hgrow (by have := hB.size; simp; omega) (fun g hg => (hlt g hg).1)
           rw [HS.out] at hown'
           clear hgrow))
      go_roundw
      case rel => exact ⟨z - x, l ++ [x], A4, c4, by omega, by go_num, by rw [HLN.out], HE, Lib.hid (by rw [HLN.out]; exact hown'), B4⟩
      case measure => simp [intOf]; omega
    · have e0 : z.toNat = 0 := by omega
      have hl2 := hl.out
      rw [e0, sz_zero, List.append_nil] at hl2
      subst hl2
      clear hl e0
      generalize hlm : l.length = m at *
      go_wp2_with fail
      go_ret
      exact ⟨A, c, rfl, hown.out, hB⟩
end Go.Proofs.Ytpgdiaihcfnpbac
