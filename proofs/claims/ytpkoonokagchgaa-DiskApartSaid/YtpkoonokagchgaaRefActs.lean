/- What the document's own Read, Cut and Sync answer of a right disk. -/
import Derived.Test.YtpkoonokagchgaaRefImage
namespace Go.Proofs.Ytpkoonokagchgaa
open Go.ChangeShapes Go.WideShapes Go.ChangeAt Go.RowKit

def readT (d : Dk) (p : Int) : ByteArray := if d.off then ByteArray.empty else if hasB d.ks.length p then (imageD d).getD p.toNat ByteArray.empty else ByteArray.empty

set_option maxHeartbeats 2000000 in
set_option maxRecDepth 100000 in
theorem refRead_any (d : Dk) (hd : Ok d) (p : Int) (kA : Option Addr) (kc : Nat) (wA : Option Addr) (wc : Nat) (w : World) (hA : At w d kA kc wA wc) (hm : d.ws.length ≤ 1000000) :
    Calls Try.prog 17 #[dval d kA kc wA wc, .int .i64 p] w fun e w' => e = .returned (.tuple #[.string (readT d p), .int .i64 (reachE d.off d.ks.length p)]) ∧ Below w.heap.size w w' := by
  have HI : Hid (∀ o, Calls Try.prog 28 #[dval d kA kc wA wc] (w.alloc o) fun e w' => ∃ A' c', e = .returned (.slice A' d.ks.length c') ∧ RowT w' A' c' (imageD d) ∧ NewA (w.alloc o) A' ∧ Below (w.alloc o).heap.size (w.alloc o) w') := Lib.hid fun o => refImage_any d hd kA kc wA wc _ (hA.below (alloc_below w o)) hm
  have hl := imageD_length d
  unfold readT reachE
  clear hA hd hm
  unfold dval at *
  generalize d.ks.length = n at *
  generalize d.ws.length = m at *
  generalize imageD d = L at *
  generalize d.sz = sz at *
  cases h : d.off
  · rw [h] at HI
    cases h2 : hasB n p
    · have h3 : ¬ (0 ≤ p ∧ p < n) := fun h => by rw [hasB_iff.2 h] at h2; cases h2
      clear HI
      by_cases q : p < 0
      · go_enter Try.func17, Try.ntmps17
        go_wp2
        exact bodyPost_ret (v := .tuple #[.string ByteArray.empty, .int .i64 5]) (by simp [results, Try.results17, go_sem, ByteArray.empty, ByteArray.emptyWithCapacity]; rfl) rfl ⟨rfl, alloc_below _ _⟩
      · have q2 : (n : Int) ≤ p := by omega
        go_enter Try.func17, Try.ntmps17
        go_wp2
        exact bodyPost_ret (v := .tuple #[.string ByteArray.empty, .int .i64 5]) (by simp [results, Try.results17, go_sem, ByteArray.empty, ByteArray.emptyWithCapacity]; rfl) rfl ⟨rfl, alloc_below _ _⟩
    · obtain ⟨q0, q1⟩ := hasB_iff.1 h2
      obtain ⟨k, rfl⟩ : ∃ k : Nat, p = (k : Int) := ⟨p.toNat, by omega⟩
      have hk : k < L.length := by omega
      have HK := Lib.hid hk
      have HL := Lib.hid hl
      clear hk hl
      have q3 : k < n := by omega
      go_enter Try.func17, Try.ntmps17
      go_wp2_with fail
      refine (HI.out _).mono ?_
      rintro e w1 ⟨A', c', rfl, hr, -, hb⟩
      obtain ⟨b, o, rfl, hbb, hc⟩ := hr.cell HK.out
      have c1 := hc k _ (List.getElem?_eq_getElem HK.out)
      have hB := Lib.hid (below_trans (alloc_below w _) hb)
      clear hc hr hb
      go_wp2
      refine bodyPost_ret (v := .tuple #[.string (L[k]'HK.out), .int .i64 0]) (by simp [results, Try.results17, go_sem]) rfl ⟨?_, hB.out⟩
      have hx := HK.out
      simp [hx]
  · clear HI
    go_enter Try.func17, Try.ntmps17
    go_wp2
    exact bodyPost_ret (v := .tuple #[.string ByteArray.empty, .int .i64 14]) (by simp [results, Try.results17, go_sem, ByteArray.empty, ByteArray.emptyWithCapacity]; rfl) rfl ⟨rfl, alloc_below _ _⟩

set_option maxHeartbeats 2000000 in
set_option maxRecDepth 100000 in
theorem refCut_any (d : Dk) (kA : Option Addr) (kc : Nat) (wA : Option Addr) (wc : Nat) (w : World) :
    Calls Try.prog 25 #[dval d kA kc wA wc] w fun e w' => e = .returned (dval (cutD d) kA kc wA wc) ∧ Below w.heap.size w w' := by
  unfold dval cutD
  generalize d.ks.length = n at *
  generalize d.ws.length = m at *
  generalize d.sz = sz at *
  generalize d.off = off at *
  go_enter Try.func25, Try.ntmps25
  go_wp2
  exact bodyPost_ret (v := .agg #[.int .i64 sz, .slice kA n kc, .slice wA m wc, .bool true]) (by simp [results, Try.results25, go_sem]) rfl ⟨rfl, by
    repeat (first | exact Below.refl _ _ | (refine Below.setCell ?_ (by simp) _) | (refine Below.alloc ?_ (by simp) _))⟩
end Go.Proofs.Ytpkoonokagchgaa
