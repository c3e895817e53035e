/- What the document's own Sync answers of a disk without power; what DiskActs is asked of, among the arguments. -/
import Derived.Test.YtpkoonokagchgaaRight
import Derived.Test.YtpkoonokagchgaaRefNew
import Derived.Test.YtpkoonokagchgaaLastLists
namespace Go.Proofs.Ytpkoonokagchgaa
open Go.ChangeShapes Go.WideShapes Go.ChangeAt Go.RowKit Go.Joins

set_option maxHeartbeats 1000000 in
set_option maxRecDepth 100000 in
theorem refSync_off (d : Dk) (kA : Option Addr) (kc : Nat) (wA : Option Addr) (wc : Nat) (w : World) (hA : At w d kA kc wA wc) (ho : d.off = true) :
    Calls Try.prog 21 #[dval d kA kc wA wc] w fun e w' => e = .returned (.tuple #[dval d kA kc wA wc, .int .i64 14]) ∧ At w' d kA kc wA wc ∧ Below w.heap.size w w' := by
  have HA : Hid (∀ W, Below w.heap.size w W → At W d kA kc wA wc) := Lib.hid fun W hW => hA.below hW
  have HW : Hid (∀ o o', Below w.heap.size w ((w.alloc o).alloc o')) := Lib.hid fun o o' => (alloc_below w o).alloc (by simp) o'
  clear hA
  unfold dval
  rw [ho]
  generalize d.ks.length = n at *
  generalize d.ws.length = m at *
  generalize d.sz = sz at *
  go_enter Try.func21, Try.ntmps21
  go_wp2
  exact bodyPost_ret (v := .tuple #[.agg #[.int .i64 sz, .slice kA n kc, .slice wA m wc, .bool true], .int .i64 14]) (by simp [results, Try.results21, go_sem]) rfl ⟨rfl, HA.out _ (HW.out _ _), HW.out _ _⟩

theorem ok_is (d : Dk) : ∃ R : Bool, R = true ↔ Ok d := by
  by_cases h : Ok d
  · exact ⟨true, by simp [h]⟩
  · exact ⟨false, by simp [h]⟩

section
set_option maxRecDepth 100000
variable {H : Type} {enc : TypeId × Value → H} {W : World}
theorem open_cap {fuel : Nat} {A : Option Addr} {n c : Nat} {y : DataW H × List MemPlace} (h : DataW.trod enc Try.prog W 0 (fun _ => true) true fuel 26 [.slice A n c] = some y) : c ≤ 9223372036854775807 := by
  rcases DataW.trod_slice Try.underlying26 h with ⟨hv, _⟩ | ⟨a, len, cap, elems, rest, n, _, hv, _, _, _, hm, _⟩
  · simp only [List.cons.injEq, and_true, Value.slice.injEq] at hv
    omega
  · simp only [List.cons.injEq, and_true, Value.slice.injEq] at hv
    unfold maxLen at hm
    omega
theorem open_acts {r : Reach} {b0 : Nat} {v : Value} {d : DataW H} {p : List MemPlace} (hv : Value.okWide Try.prog W r b0 28 v) (h : DataW.Trod enc Try.prog W 0 (fun _ => true) true 28 v d p) :
    ∃ d1 kA kc wA wc at_ s KA KC ks many size, v = .agg #[.int .i64 d1.sz, .slice kA d1.ks.length kc, .slice wA d1.ws.length wc, .bool d1.off, .int .i64 at_, .string s, .slice KA ks.length KC, .int .i64 many, .int .i64 size] ∧ At W d1 kA kc wA wc ∧ RowI W KA KC ks ∧ KC ≤ 9223372036854775807 := by
  obtain ⟨cs, rfl, hsz⟩ := okWide_struct Try.underlying28 hv
  obtain ⟨fuel, hf⟩ := h
  obtain ⟨l⟩ := cs
  match l, hsz.trans cells28 with
  | [c0, c1, c2, c3, c4, c5, c6, c7, c8], _ =>
    obtain ⟨xs, n, _, hx, _, hlen, hg⟩ := DataW.trod_struct Try.underlying28 hf
    have g0 := hg 0 _ rfl
    have g1 := hg 1 _ rfl
    have g2 := hg 2 _ rfl
    have g3 := hg 3 _ rfl
    have g4 := hg 4 _ rfl
    have g5 := hg 5 _ rfl
    match xs, hlen with
    | [y0, y1, y2, y3, y4, y5], _ =>
      simp [Value.cells, cells25, cells3, cells9, cells26] at g0 g1 g2 g3 g4 g5
      obtain ⟨d1, kA, kc, wA, wc, e0, hat⟩ := open_disk_cells g0
      obtain ⟨a1, e1, _, _⟩ := DataW.trod_int Try.underlying3 g1
      obtain ⟨s2, e2, _, _⟩ := DataW.trod_string Try.underlying9 g2
      obtain ⟨KA, KC, ks, e3, hk, _⟩ := open_ints g3
      obtain ⟨a4, e4, _, _⟩ := DataW.trod_int Try.underlying3 g4
      obtain ⟨a5, e5, _, _⟩ := DataW.trod_int Try.underlying3 g5
      simp only [List.cons.injEq, and_true] at e0 e1 e2 e4 e5
      obtain ⟨rfl, rfl, rfl, rfl⟩ := e0
      subst e1 e2 e3 e4 e5
      exact ⟨d1, kA, kc, wA, wc, a1, s2, KA, KC, ks, a4, a5, rfl, hat, hk, open_cap g3⟩
end
end Go.Proofs.Ytpkoonokagchgaa
