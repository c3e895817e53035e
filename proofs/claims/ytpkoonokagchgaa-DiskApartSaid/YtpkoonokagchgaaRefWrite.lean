/- What the document's own Write answers: the disk with a write more, or the disk and why not. Conditions: at most 1000000 sectors and writes. -/
import Derived.Test.YtpkoonokagchgaaWrite
namespace Go.Proofs.Ytpkoonokagchgaa
open Go.ChangeShapes Go.WideShapes Go.ChangeAt Go.RowKit Go.Shelf

theorem withinB_iff {n a b : Int} : withinB n a b = true ↔ a ≤ n ∧ n ≤ b := by simp [withinB]

set_option maxHeartbeats 1000000 in
set_option maxRecDepth 100000 in
theorem refWrite_no (d : Dk) (p : Int) (s : ByteArray) (kA : Option Addr) (kc : Nat) (wA : Option Addr) (wc : Nat) (w : World) (hA : At w d kA kc wA wc) (hE : writeE d p s ≠ 0) :
    Calls Try.prog 19 #[dval d kA kc wA wc, .int .i64 p, .string s] w fun e w' => e = .returned (.tuple #[dval d kA kc wA wc, .int .i64 (writeE d p s)]) ∧ At w' d kA kc wA wc ∧ Below w.heap.size w w' := by
  have HA : Hid (∀ W, Below w.heap.size w W → At W d kA kc wA wc) := Lib.hid fun W hW => hA.below hW
  clear hA
  have HW : Hid (∀ o o', Below w.heap.size w ((w.alloc o).alloc o')) := Lib.hid fun o o' => (alloc_below w o).alloc (by simp) o'
  unfold writeE dval at *
  cases h1 : d.off
  · rw [h1] at hE
    cases h2 : hasB d.ks.length p
    · have h3 : ¬ (0 ≤ p ∧ p < d.ks.length) := fun h => by rw [hasB_iff.2 h] at h2; cases h2
      clear h2 hE
      generalize d.ks.length = n at *
      generalize d.ws.length = m at *
      generalize d.sz = sz at *
      by_cases q : p < 0
      · go_enter Try.func19, Try.ntmps19
        go_wp2
        exact bodyPost_ret (v := .tuple #[.agg #[.int .i64 sz, .slice kA n kc, .slice wA m wc, .bool false], .int .i64 5]) (by simp [results, Try.results19, go_sem]) rfl ⟨rfl, HA.out _ (HW.out _ _), HW.out _ _⟩
      · have q2 : (n : Int) ≤ p := by omega
        go_enter Try.func19, Try.ntmps19
        go_wp2
        exact bodyPost_ret (v := .tuple #[.agg #[.int .i64 sz, .slice kA n kc, .slice wA m wc, .bool false], .int .i64 5]) (by simp [results, Try.results19, go_sem]) rfl ⟨rfl, HA.out _ (HW.out _ _), HW.out _ _⟩
    · obtain ⟨q0, q1⟩ := hasB_iff.1 h2
      have h3 : ¬ (1 ≤ (s.size : Int) ∧ (s.size : Int) ≤ d.sz) := fun h => by rw [h2, withinB_iff.2 h] at hE; simp at hE
      have h4 : withinB s.size 1 d.sz = false := by
        cases h : withinB s.size 1 d.sz
        · rfl
        · exact absurd (withinB_iff.1 h) h3
      rw [h4]
      clear h2 hE h4
      generalize d.ks.length = n at *
      generalize d.ws.length = m at *
      generalize d.sz = sz at *
      by_cases q : (s.size : Int) < 1
      · go_enter Try.func19, Try.ntmps19
        go_wp2
        exact bodyPost_ret (v := .tuple #[.agg #[.int .i64 sz, .slice kA n kc, .slice wA m wc, .bool false], .int .i64 1]) (by simp [results, Try.results19, go_sem]) rfl ⟨rfl, HA.out _ (HW.out _ _), HW.out _ _⟩
      · have q2 : sz < (s.size : Int) := by omega
        go_enter Try.func19, Try.ntmps19
        go_wp2
        exact bodyPost_ret (v := .tuple #[.agg #[.int .i64 sz, .slice kA n kc, .slice wA m wc, .bool false], .int .i64 1]) (by simp [results, Try.results19, go_sem]) rfl ⟨rfl, HA.out _ (HW.out _ _), HW.out _ _⟩
  · clear hE
    generalize d.ks.length = n at *
    generalize d.ws.length = m at *
    generalize d.sz = sz at *
    go_enter Try.func19, Try.ntmps19
    go_wp2
    exact bodyPost_ret (v := .tuple #[.agg #[.int .i64 sz, .slice kA n kc, .slice wA m wc, .bool true], .int .i64 14]) (by simp [results, Try.results19, go_sem]) rfl ⟨rfl, HA.out _ (HW.out _ _), HW.out _ _⟩
end Go.Proofs.Ytpkoonokagchgaa
