/- The functions that a disk's writes are gone through by: all of them, those to one sector, what is kept of them. -/
import Derived.Test.YtpkoonokagchgaaRefImage
import Derived.Test.YtpkoonokagchgaaRange
import Derived.RegionIn
import Derived.BigRegionIn
import Derived.RangeFuncCalls
import Derived.OwnWalkIn
import Derived.TacticsInMore
import Derived.LoopNIn
import Derived.LoopIn
import Derived.RangeFuncLeaves
namespace Go.Proofs.Ytpkoonokagchgaa
open Go.ChangeShapes Go.WideShapes Go.ChangeAt Go.RowKit
attribute [local go_sem] Oper.semAt_some

def encW (x : Wr) : Array Value := #[.agg #[.int .i64 x.p, .string x.s]]
def blkLt (A : Option Addr) (B : Nat) : Prop := ∀ b, A.map (·.block) = some b → b < B

theorem RowW.under {W W' : World} {A : Option Addr} {c B : Nat} {l : List Wr} (h : RowW W A c l) (hA : 0 < l.length → blkLt A B) (hb : Below B W W') : RowW W' A c l :=
  ⟨fun hl => by
    obtain ⟨b, off, h1, h2, h3⟩ := h.k hl
    have hlt := hA (by rw [wrcells_length] at hl; omega) b (by rw [h1]; rfl)
    exact ⟨b, off, h1, Nat.lt_of_lt_of_le h2 hb.size, fun j u hu => (hb.cell (p := ⟨b, off + j, none⟩) hlt).trans (h3 j u hu)⟩, h.nn, h.le⟩
theorem RowT.under {W W' : World} {A : Option Addr} {c B : Nat} {l : List ByteArray} (h : RowT W A c l) (hA : 0 < l.length → blkLt A B) (hb : Below B W W') : RowT W' A c l :=
  ⟨fun hl => by
    obtain ⟨b, off, h1, h2, h3⟩ := h.k hl
    have hlt := hA (by rw [tcells_length] at hl; omega) b (by rw [h1]; rfl)
    exact ⟨b, off, h1, Nat.lt_of_lt_of_le h2 hb.size, fun j u hu => (hb.cell (p := ⟨b, off + j, none⟩) hlt).trans (h3 j u hu)⟩, h.nn, h.le⟩
theorem Bx.under {W W' : World} {B B0 : Nat} {t : TypeId} {cs : Array Value} (h : Bx W B t cs) (hlt : B < B0) (hb : Below B0 W W') : Bx W' B t cs := (hb.block B hlt).trans h

theorem take_snoc_prefix {α : Type} {l : List α} {k : Nat} {x : α} (h : l[k]? = some x) : l.take k ++ [x] = l.take (k + 1) := by
  rw [List.take_add_one, h, Option.toList_some]

set_option maxRecDepth 100000 in
set_option maxHeartbeats 4000000 in
theorem values_in (n : Nat) (hn : 1 ≤ n) (Bb B0 : Nat) (A : Option Addr) (c : Nat) (ws : List Wr) (w : World) (hb : Bx w Bb 23 #[.slice A ws.length c]) (hlt : Bb < B0) (hrow : RowW w A c ws) (hA : 0 < ws.length → blkLt A B0) (hB0 : B0 ≤ w.heap.size) (hm : ws.length ≤ 1000000) :
    SeqList Fence.wide n Try.prog 59 #[.pointer (some ⟨Bb, 0, none⟩)] encW (Below B0) ws w := by
  intro ll J W hW hJ hY h0
  have hX : Bx W Bb 23 #[.slice A ws.length c] := hb.below hW
  have hR : RowW W A c ws := hrow.below hW
  have HX := Lib.hid hX
  have HR := Lib.hid hR
  have HA := Lib.hid hA
  have HY := Lib.hid hY
  have HJ := Lib.hid hJ
  have H0 := Lib.hid h0
  have HS := Lib.hid (Nat.le_trans hB0 hW.size)
  have HLT := Lib.hid hlt
  have g0 := hX.cell 0 (v := .slice A ws.length c) rfl
  clear hb hrow hW hJ hY h0 hX hR hA hB0 hlt
  generalize hmm : ws.length = m at *
  have HM := Lib.hid hmm
  clear hmm
  refine callsIn_of_wp Try.func59 rfl trivial ?_ rfl
  simp only [Try.ntmps59, List.size_toArray, List.length_cons, List.length_nil, Nat.reduceAdd, Nat.reduceSub, Array.replicate_succ, Array.replicate_zero, List.push_toArray, List.append_toArray, List.nil_append, List.cons_append]
  gi_wp2
  clear g0
  gi_loopw [7] (fun i wr => ∃ k : Nat, k ≤ m ∧ i = .int .i64 k ∧ Hid (J (ws.take k) wr) ∧ Below B0 W wr) (fun i _ => m - (intOf i).toNat)
  case atStart => exact ⟨0, Nat.zero_le _, rfl, H0, Below.refl _ _⟩
  case round =>
    obtain ⟨k, hk, rfl, hj, hB⟩ := hrel
    by_cases hlt : k < m
    · have hkl : k < ws.length := by rw [HM.out]; exact hlt
      have hRk := HR.out.under (fun _ => HA.out (by omega)) hB
      obtain ⟨b, o, rfl, hbb, hc⟩ := hRk.cell hkl
      obtain ⟨x, hx⟩ : ∃ x, ws[k]? = some x := ⟨_, List.getElem?_eq_getElem hkl⟩
      obtain ⟨c1, c2⟩ := hc k x hx
      have hsn := take_snoc_prefix hx
      obtain ⟨fn0, tmps0, assign0, body0, hy0, hr0⟩ := HY.out (ws.take k) x (wr.alloc (.cells #[.int .i64 x.p, .string x.s] 55)) (HJ.out _ _ _ hj.out (alloc_below wr _)) (by rw [hsn]; exact List.take_prefix _ _)
      have hz0 : Sem.run Try.prog (Instr.yield ll #[.agg #[.int .i64 x.p, .string x.s]]) (wr.alloc (.cells #[.int .i64 x.p, .string x.s] 55)) = .ok (Next.round ll fn0 tmps0 assign0 body0) (wr.alloc (.cells #[.int .i64 x.p, .string x.s] 55)) := hy0
      rw [hsn] at hr0
      have HB2 := Lib.hid (hB.alloc (Nat.le_trans HS.out hB.size) (.cells #[.int .i64 x.p, .string x.s] 55))
      clear hy0 hsn hx hc hRk hkl hB hj
      gi_wp2
      refine hr0.mono ?_
      rintro e W1 ⟨rfl, J1, q0⟩
      have HJ1 := Lib.hid J1
      have HB3 := HB2.out.trans q0
      clear hr0 hz0 q0 J1 c1 c2
      gi_wp2
      go_roundw
      case rel => exact ⟨k + 1, by omega, by go_num, HJ1, HB3⟩
      case measure => simp [intOf]; omega
    · obtain rfl : k = m := by omega
      have htk : ws.take k = ws := List.take_of_length_le (by have := HM.out; omega)
      have hj2 := hj.out
      rw [htk] at hj2
      have HJ2 := Lib.hid hj2
      clear hj2 hj htk
      gi_wp2
      go_end0
      exact ⟨⟨_, rfl⟩, HJ2.out⟩
set_option maxRecDepth 100000 in
set_option maxHeartbeats 4000000 in
theorem toOne_in (n : Nat) (hn : 1 ≤ n) (p : Int) (Bb Bp B0 : Nat) (A : Option Addr) (c : Nat) (ws : List Wr) (w : World) (hb : Bx w Bb 23 #[.slice A ws.length c]) (hp : Bx w Bp 3 #[.int .i64 p]) (hlt : Bb < B0) (hlp : Bp < B0) (hrow : RowW w A c ws) (hA : 0 < ws.length → blkLt A B0) (hB0 : B0 ≤ w.heap.size) (hm : ws.length ≤ 1000000) :
    SeqList Fence.wide n Try.prog 56 #[.pointer (some ⟨Bb, 0, none⟩), .pointer (some ⟨Bp, 0, none⟩)] encW (Below B0) (toOne ws p) w := by
  intro ll J W hW hJ hY h0
  have hX : Bx W Bb 23 #[.slice A ws.length c] := hb.below hW
  have hR : RowW W A c ws := hrow.below hW
  have HX := Lib.hid hX
  have HP := Lib.hid (hp.below hW)
  have HLP := Lib.hid hlp
  have HR := Lib.hid hR
  have HA := Lib.hid hA
  have HY := Lib.hid hY
  have HJ := Lib.hid hJ
  have H0 := Lib.hid h0
  have HS := Lib.hid (Nat.le_trans hB0 hW.size)
  have HLT := Lib.hid hlt
  have g0 := hX.cell 0 (v := .slice A ws.length c) rfl
  clear hb hp hlp hrow hW hJ hY h0 hX hR hA hB0 hlt
  generalize hmm : ws.length = m at *
  have HM := Lib.hid hmm
  clear hmm
  refine callsIn_of_wp Try.func56 rfl trivial ?_ rfl
  simp only [Try.ntmps56, List.size_toArray, List.length_cons, List.length_nil, Nat.reduceAdd, Nat.reduceSub, Array.replicate_succ, Array.replicate_zero, List.push_toArray, List.append_toArray, List.nil_append, List.cons_append]
  gi_wp2
  clear g0
  gi_loopw [8] (fun i wr => ∃ k : Nat, k ≤ m ∧ i = .int .i64 k ∧ Hid (J (toOne (ws.take k) p) wr) ∧ Below B0 W wr) (fun i _ => m - (intOf i).toNat)
  case atStart => exact ⟨0, Nat.zero_le _, rfl, H0, Below.refl _ _⟩
  case round =>
    obtain ⟨k, hk, rfl, hj, hB⟩ := hrel
    by_cases hlt : k < m
    · have hkl : k < ws.length := by rw [HM.out]; exact hlt
      have hRk := HR.out.under (fun _ => HA.out (by omega)) hB
      obtain ⟨b, o, rfl, hbb, hc⟩ := hRk.cell hkl
      obtain ⟨x, hx⟩ : ∃ x, ws[k]? = some x := ⟨_, List.getElem?_eq_getElem hkl⟩
      obtain ⟨c1, c2⟩ := hc k x hx
      have hsn : toOne (ws.take (k + 1)) p = toOne (ws.take k) p ++ toOne [x] p := by rw [← take_snoc_prefix hx, toOne_append]
      have hpre : toOne (ws.take (k + 1)) p <+: toOne ws p := ⟨toOne (ws.drop (k + 1)) p, by rw [← toOne_append, List.take_append_drop]⟩
      have gp : ∀ o, (wr.alloc o).cell? ⟨Bp, 0, none⟩ = some (.int .i64 p) := fun o => ((HP.out.under HLP.out hB).below (alloc_below wr o)).cell 0 rfl
      have HB2 := Lib.hid (hB.alloc (Nat.le_trans HS.out hB.size) (.cells #[.int .i64 x.p, .string x.s] 55))
      have HJ0 := Lib.hid (HJ.out _ _ _ hj.out (alloc_below wr (.cells #[.int .i64 x.p, .string x.s] 55)))
      by_cases hxp : x.p = p
      · rw [toOne_same hxp] at hsn
        obtain ⟨fn0, tmps0, assign0, body0, hy0, hr0⟩ := HY.out (toOne (ws.take k) p) ⟨0, x.s⟩ (wr.alloc (.cells #[.int .i64 x.p, .string x.s] 55)) HJ0.out (by rw [← hsn]; exact hpre)
        have hz0 : Sem.run Try.prog (Instr.yield ll #[.agg #[.int .i64 0, .string x.s]]) (wr.alloc (.cells #[.int .i64 x.p, .string x.s] 55)) = .ok (Next.round ll fn0 tmps0 assign0 body0) (wr.alloc (.cells #[.int .i64 x.p, .string x.s] 55)) := hy0
        rw [← hsn] at hr0
        have heq : (x.p == p) = true := beq_iff_eq.2 hxp
        clear hy0 hsn hpre hx hc hRk hkl hB hj hxp
        gi_wp2
        refine hr0.mono ?_
        rintro e W1 ⟨rfl, J1, q0⟩
        have HJ1 := Lib.hid J1
        have HB3 := HB2.out.trans q0
        clear hr0 hz0 q0 J1 c1 c2 gp
        gi_wp2
        go_roundw
        case rel => exact ⟨k + 1, by omega, by go_num, HJ1, HB3⟩
        case measure => simp [intOf]; omega
      · rw [toOne_other hxp, List.append_nil] at hsn
        have heq : (x.p == p) = false := beq_eq_false_iff_ne.2 hxp
        have HJ1 := HJ0
        rw [← hsn] at HJ1
        clear hsn hpre hx hc hRk hkl hB hj hxp
        gi_wp2
        refine ⟨(fun f h => by cases h), ?_⟩
        gi_wp2
        go_roundw
        case rel => exact ⟨k + 1, by omega, by go_num, HJ1, HB2.out⟩
        case measure => simp [intOf]; omega
    · obtain rfl : k = m := by omega
      have htk : ws.take k = ws := List.take_of_length_le (by have := HM.out; omega)
      have hj2 := hj.out
      rw [htk] at hj2
      have HJ2 := Lib.hid hj2
      clear hj2 hj htk
      gi_wp2
      go_end0
      exact ⟨⟨_, rfl⟩, HJ2.out⟩
end Go.Proofs.Ytpkoonokagchgaa
