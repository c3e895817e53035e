/- What the document's own Strings and Same answer of like rows and like disks: yes. -/
import Derived.Test.YtpkoonokagchgaaApply
namespace Go.Proofs.Ytpkoonokagchgaa
open Go.ChangeShapes Go.WideShapes Go.ChangeAt Go.RowKit

set_option maxHeartbeats 4000000 in
set_option maxRecDepth 100000 in
theorem strings_yes (A B : Option Addr) (c e0 : Nat) (l : List ByteArray) (w : World) (hA : RowT w A c l) (hB : RowT w B e0 l) (hl : l.length ≤ 1000000) :
    Calls Try.prog 26 #[.slice A l.length c, .slice B l.length e0] w fun e w' => e = .returned (.bool true) ∧ Below w.heap.size w w' := by
  have HA := Lib.hid hA
  have HB := Lib.hid hB
  clear hA hB
  generalize hn : l.length = n at *
  have HN := Lib.hid hn
  clear hn
  go_enter Try.func26, Try.ntmps26
  go_wp2
  go_loopw [5] (fun i wr => ∃ k : Nat, k ≤ n ∧ i = .int .i64 k ∧ Below w.heap.size w wr) (fun i _ => n - (intOf i).toNat)
  case atStart => exact ⟨0, Nat.zero_le _, rfl, Below.refl _ _⟩
  case round =>
    rename World => v
    obtain ⟨k, hk, rfl, hb⟩ := hrel
    by_cases hlt : k < n
    · have hkl : k < l.length := by rw [HN.out]; exact hlt
      obtain ⟨b1, o1, rfl, hb1, hc1⟩ := (HA.out.below hb).cell hkl
      obtain ⟨b2, o2, rfl, hb2, hc2⟩ := (HB.out.below hb).cell hkl
      have c1 := hc1 k _ (List.getElem?_eq_getElem hkl)
      have c2 := hc2 k _ (List.getElem?_eq_getElem hkl)
      generalize l[k] = x at c1 c2
      clear hc1 hc2 hkl
      have d1 : v.drew.cell? ⟨b1, o1 + k, none⟩ = some (.string x) := c1
      have d2 : v.drew.cell? ⟨b2, o2 + k, none⟩ = some (.string x) := c2
      go_wp2
      go_region
      all_goals
        go_wp2
        go_roundw
        case rel => exact ⟨k + 1, by omega, by go_num, below_trans hb (drew_below _)⟩
        case measure => simp [intOf]; omega
    · obtain rfl : k = n := by omega
      go_wp2
      go_ret
      exact ⟨rfl, hb⟩

theorem run_neq_wr (W : World) (a : Int) (b : ByteArray) : (binOp .neq 55 (.agg #[.int .i64 a, .string b]) (.agg #[.int .i64 a, .string b])).run Try.prog W = .ok (.bool false) W := by
  go_simp

set_option maxHeartbeats 8000000 in
set_option maxRecDepth 100000 in
theorem same_yes (d : Dk) (kA : Option Addr) (kc : Nat) (wA : Option Addr) (wc : Nat) (kB : Option Addr) (ke : Nat) (wB : Option Addr) (we : Nat) (w : World) (hA : At w d kA kc wA wc) (hB : At w d kB ke wB we) (hk : d.ks.length ≤ 1000000) (hm : d.ws.length ≤ 1000000) :
    Calls Try.prog 13 #[dval d kA kc wA wc, dval d kB ke wB we] w fun e w' => e = .returned (.bool true) ∧ Below w.heap.size w w' := by
  have HW1 := Lib.hid hA.rowW
  have HW2 := Lib.hid hB.rowW
  have HS : Hid (∀ W, Below w.heap.size w W → Calls Try.prog 26 #[.slice kA d.ks.length kc, .slice kB d.ks.length ke] W fun e w' => e = .returned (.bool true) ∧ Below W.heap.size W w') := Lib.hid fun W hW => strings_yes kA kB kc ke d.ks W (hA.rowT.below hW) (hB.rowT.below hW) hk
  clear hA hB
  unfold dval
  generalize hn : d.ks.length = n at *
  generalize hmm : d.ws.length = m at *
  have HM := Lib.hid hmm
  clear hn hmm
  generalize d.sz = sz
  generalize d.off = off
  go_enter Try.func13, Try.ntmps13
  go_wp2_with fail
  refine (HS.out _ ((alloc_below w _).alloc (by simp) _)).mono ?_
  rintro e w1 ⟨rfl, hb⟩
  have B1 : Below w.heap.size w w1 := ((alloc_below w _).alloc (by simp) _).trans (hb.mono (by simp; omega))
  have X1 := Lib.hid (((Bx.new w 25 #[.int .i64 sz, .slice kA n kc, .slice wA m wc, .bool off]).below (alloc_below _ (.cells #[.int .i64 sz, .slice kB n ke, .slice wB m we, .bool off] 25))).below hb)
  have X2 : Hid (Bx w1 (w.heap.size + 1) 25 #[.int .i64 sz, .slice kB n ke, .slice wB m we, .bool off]) := Lib.hid (by
    have := ((Bx.new (w.alloc (.cells #[.int .i64 sz, .slice kA n kc, .slice wA m wc, .bool off] 25)) 25 #[.int .i64 sz, .slice kB n ke, .slice wB m we, .bool off])).below hb
    simpa using this)
  have HB1 := Lib.hid B1
  clear hb B1 hk
  have g1 := X1.out.cell 0 (v := .int .i64 sz) rfl
  have g2 := X2.out.cell 0 (v := .int .i64 sz) rfl
  have g3 := X1.out.cell 3 (v := .bool off) rfl
  have g4 := X2.out.cell 3 (v := .bool off) rfl
  have g5 := X1.out.cell 2 (v := .slice wA m wc) rfl
  have g6 := X2.out.cell 2 (v := .slice wB m we) rfl
  go_wp2
  clear g1 g2 g3 g4 g5 g6
  go_loopw [6] (fun i wr => ∃ k : Nat, k ≤ m ∧ i = .int .i64 k ∧ Below w1.heap.size w1 wr) (fun i _ => m - (intOf i).toNat)
  case atStart => exact ⟨0, Nat.zero_le _, rfl, Below.refl _ _⟩
  case round =>
    rename World => v
    obtain ⟨k, hk, rfl, hb⟩ := hrel
    by_cases hlt : k < m
    · have hkl : k < d.ws.length := by rw [HM.out]; exact hlt
      obtain ⟨b1, o1, rfl, hb1, hc1⟩ := ((HW1.out.below HB1.out).below hb).cell hkl
      obtain ⟨b2, o2, rfl, hb2, hc2⟩ := ((HW2.out.below HB1.out).below hb).cell hkl
      obtain ⟨c1, c2⟩ := hc1 k _ (List.getElem?_eq_getElem hkl)
      obtain ⟨c3, c4⟩ := hc2 k _ (List.getElem?_eq_getElem hkl)
      generalize d.ws[k] = x at c1 c2 c3 c4
      have g5 := (X1.out.below hb).cell 2 (v := .slice (some ⟨b1, o1, none⟩) m wc) rfl
      have g6 := (X2.out.below hb).cell 2 (v := .slice (some ⟨b2, o2, none⟩) m we) rfl
      clear hc1 hc2 hkl
      have d1 : v.drew.cell? ⟨b1, o1 + k * 2, none⟩ = some (.int .i64 x.p) := c1
      have d2 : v.drew.cell? ⟨b1, o1 + k * 2 + 1, none⟩ = some (.string x.s) := c2
      have d3 : v.drew.cell? ⟨b2, o2 + k * 2, none⟩ = some (.int .i64 x.p) := c3
      have d4 : v.drew.cell? ⟨b2, o2 + k * 2 + 1, none⟩ = some (.string x.s) := c4
      have d5 : v.drew.cell? ⟨w.heap.size, 2, none⟩ = some (.slice (some ⟨b1, o1, none⟩) m wc) := g5
      have d6 : v.drew.cell? ⟨w.heap.size + 1, 2, none⟩ = some (.slice (some ⟨b2, o2, none⟩) m we) := g6
      have hq := run_neq_wr
      go_wp2
      go_region
      all_goals
        go_wp2
        go_roundw
        case rel => exact ⟨k + 1, by omega, by go_num, below_trans hb (drew_below _)⟩
        case measure => simp [intOf]; omega
    · obtain rfl : k = m := by omega
      have g5 := (X1.out.below hb).cell 2 (v := .slice wA k wc) rfl
      go_wp2
      go_ret
      exact ⟨rfl, below_trans HB1.out hb⟩
end Go.Proofs.Ytpkoonokagchgaa
