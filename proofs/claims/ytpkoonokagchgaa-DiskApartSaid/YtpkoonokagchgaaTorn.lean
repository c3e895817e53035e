/- The function that what is kept of a disk's writes is gone through by. -/
import Derived.Test.YtpkoonokagchgaaSeq
import Derived.Lib.MinMax
namespace Go.Proofs.Ytpkoonokagchgaa
open Go.ChangeShapes Go.WideShapes Go.ChangeAt Go.RowKit
attribute [local go_sem] Oper.semAt_some

def icells (k : List Int) : List Value := k.map (.int .i64)
theorem icells_length (k : List Int) : (icells k).length = k.length := by simp [icells]
structure RowI (W : World) (A : Option Addr) (c : Nat) (l : List Int) : Prop where
  k : CellsAt W A (icells l)
  nn : A = none → l.length = 0 ∧ c = 0
  le : l.length ≤ c
theorem RowI.below {W W' : World} {A : Option Addr} {c : Nat} {l : List Int} (h : RowI W A c l) (hb : Below W.heap.size W W') : RowI W' A c l := ⟨h.k.below hb, h.nn, h.le⟩
theorem RowI.under {W W' : World} {A : Option Addr} {c B : Nat} {l : List Int} (h : RowI W A c l) (hA : 0 < l.length → blkLt A B) (hb : Below B W W') : RowI W' A c l :=
  ⟨fun hl => by
    obtain ⟨b, off, h1, h2, h3⟩ := h.k hl
    have hlt := hA (by rw [icells_length] at hl; omega) b (by rw [h1]; rfl)
    exact ⟨b, off, h1, Nat.lt_of_lt_of_le h2 hb.size, fun j u hu => (hb.cell (p := ⟨b, off + j, none⟩) hlt).trans (h3 j u hu)⟩, h.nn, h.le⟩
theorem RowI.cell {W : World} {A : Option Addr} {c : Nat} {l : List Int} (h : RowI W A c l) {j : Nat} (hj : j < l.length) :
    ∃ b off, A = some ⟨b, off, none⟩ ∧ b < W.heap.size ∧ ∀ j x, l[j]? = some x → W.cell? ⟨b, off + j, none⟩ = some (.int .i64 x) := by
  obtain ⟨b, off, h1, h2, h3⟩ := h.k (by rw [icells_length]; omega)
  exact ⟨b, off, h1, h2, fun j x hx => h3 j _ (by simp [icells, hx])⟩
theorem RowI.nil (W : World) : RowI W none 0 [] := ⟨CellsAt.nil _ _, fun _ => ⟨rfl, rfl⟩, Nat.le_refl _⟩

theorem tears_prefix (ws : List Wr) (ks : List Int) (i : Nat) : tears (ws.take i) ks <+: tears ws ks := by
  induction ws generalizing ks i with
  | nil => simp
  | cons w ws ih =>
    cases i with
    | zero => simp [tears]
    | succ i =>
      cases ks with
      | nil => simp [tears]
      | cons n k =>
        simp only [List.take_succ_cons, tears, List.cons_prefix_cons, true_and]
        exact ih k i

set_option maxRecDepth 100000 in
set_option maxHeartbeats 4000000 in
theorem torn_in (n : Nat) (hn : 1 ≤ n) (Bb Bk B0 : Nat) (A KA : Option Addr) (c kc : Nat) (ws : List Wr) (ks : List Int) (w : World) (hb : Bx w Bb 23 #[.slice A ws.length c]) (hp : Bx w Bk 26 #[.slice KA ks.length kc]) (hlt : Bb < B0) (hlp : Bk < B0)
    (hrow : RowW w A c ws) (hA : 0 < ws.length → blkLt A B0) (hkrow : RowI w KA kc ks) (hK : 0 < ks.length → blkLt KA B0) (hB0 : B0 ≤ w.heap.size) (hm : ws.length ≤ 1000000) (hkc : kc ≤ 9223372036854775807) :
    SeqList Fence.wide n Try.prog 58 #[.pointer (some ⟨Bk, 0, none⟩), .pointer (some ⟨Bb, 0, none⟩)] encW (Below B0) (tears ws ks) w := by
  intro ll J W hW hJ hY h0
  have hX : Bx W Bb 23 #[.slice A ws.length c] := hb.below hW
  have hP : Bx W Bk 26 #[.slice KA ks.length kc] := hp.below hW
  have HR := Lib.hid (hrow.below hW)
  have HKR := Lib.hid (hkrow.below hW)
  have hkle := hkrow.le
  have HX := Lib.hid hX
  have HP := Lib.hid hP
  have HA := Lib.hid hA
  have HK := Lib.hid hK
  have HY := Lib.hid hY
  have HJ := Lib.hid hJ
  have H0 := Lib.hid h0
  have HS := Lib.hid (Nat.le_trans hB0 hW.size)
  have HLT := Lib.hid hlt
  have HLP := Lib.hid hlp
  have g0 := hX.cell 0 (v := .slice A ws.length c) rfl
  have g1 := hP.cell 0 (v := .slice KA ks.length kc) rfl
  have hnn := hkrow.nn
  clear hb hp hrow hkrow hW hJ hY h0 hX hP hA hK hB0 hlt hlp
  have HTL := Lib.hid (tears_length ws ks)
  generalize hmm : ws.length = m at *
  generalize hkk : ks.length = q at *
  have HM := Lib.hid hmm
  have HQ := Lib.hid hkk
  obtain ⟨M, hMM⟩ : ∃ M : Nat, min q m = M := ⟨_, rfl⟩
  have hmin : min (q : Int) (m : Int) = (M : Int) := by omega
  have hM1 : M ≤ q := by omega
  have hM2 : M ≤ m := by omega
  clear hmm hkk hMM
  cases KA with
  | none =>
    obtain ⟨rfl, rfl⟩ := hnn rfl
    obtain rfl : M = 0 := by omega
    have hts : tears ws ks = [] := List.eq_nil_of_length_eq_zero (by rw [HTL.out]; omega)
    rw [hts]
    have hmin0 : min (0 : Int) (m : Int) = 0 := hmin
    clear hmin hts
    refine callsIn_of_wp Try.func58 rfl trivial ?_ rfl
    simp only [Try.ntmps58, List.size_toArray, List.length_cons, List.length_nil, Nat.reduceAdd, Nat.reduceSub, Array.replicate_succ, Array.replicate_zero, List.push_toArray, List.append_toArray, List.nil_append, List.cons_append]
    gi_wp2
    clear g0 g1
    gi_loopw [15] (fun i wr => i = .int .i64 0 ∧ wr = W) (fun i _ => 0)
    case atStart => exact ⟨rfl, rfl⟩
    case round =>
      obtain ⟨rfl, rfl⟩ := hrel
      gi_wp2
      go_end0
      exact ⟨⟨_, rfl⟩, H0.out⟩
  | some ka =>
    refine callsIn_of_wp Try.func58 rfl trivial ?_ rfl
    simp only [Try.ntmps58, List.size_toArray, List.length_cons, List.length_nil, Nat.reduceAdd, Nat.reduceSub, Array.replicate_succ, Array.replicate_zero, List.push_toArray, List.append_toArray, List.nil_append, List.cons_append]
    gi_wp2
    clear g0 g1
    have HMIN := Lib.hid hmin
    clear hmin
    gi_loopw [4, 5, 15] (fun _ _ i wr => ∃ k : Nat, k ≤ M ∧ i = .int .i64 k ∧ Hid (J (tears (ws.take k) ks) wr) ∧ Below B0 W wr) (fun _ _ i _ => M - (intOf i).toNat)
    case atStart => exact ⟨0, Nat.zero_le _, rfl, H0, Below.refl _ _⟩
    case round =>
      obtain ⟨k, hk, rfl, hj, hB⟩ := hrel
      by_cases hlt : k < M
      · have hkl : k < ws.length := by rw [HM.out]; omega
        have hkq : k < ks.length := by rw [HQ.out]; omega
        have hRk := HR.out.under (fun _ => HA.out (by omega)) hB
        obtain ⟨b, o, rfl, hbb, hc⟩ := hRk.cell hkl
        obtain ⟨b2, o2, hka, hbb2, hc2⟩ := (HKR.out.under (fun _ => HK.out (by omega)) hB).cell hkq
        simp only [Option.some.injEq] at hka
        subst hka
        obtain ⟨x, hx⟩ : ∃ x, ws[k]? = some x := ⟨_, List.getElem?_eq_getElem hkl⟩
        obtain ⟨y, hy⟩ : ∃ y, ks[k]? = some y := ⟨_, List.getElem?_eq_getElem hkq⟩
        obtain ⟨c1, c2⟩ := hc k x hx
        have c3 := hc2 k y hy
        have hsn := tears_snoc hx hy
        have gl : wr.cell? ⟨Bb, 0, none⟩ = some (.slice (some ⟨b, o, none⟩) m c) := (HX.out.under HLT.out hB).cell 0 rfl
        have hpre : tears (ws.take (k + 1)) ks <+: tears ws ks := tears_prefix ws ks (k + 1)
        have hte : tear x y = ⟨x.p, x.s.extract 0 (min (max y 0) (x.s.size : Int)).toNat⟩ := rfl
        rw [hte] at hsn
        have HB2 := Lib.hid (hB.alloc (Nat.le_trans HS.out hB.size) (.cells #[.int .i64 x.p, .string (x.s.extract 0 (min (max y 0) (x.s.size : Int)).toNat)] 55))
        have HJ0 := Lib.hid (HJ.out _ _ _ hj.out (alloc_below wr (.cells #[.int .i64 x.p, .string (x.s.extract 0 (min (max y 0) (x.s.size : Int)).toNat)] 55)))
        obtain ⟨fn0, tmps0, assign0, body0, hy0, hr0⟩ := HY.out (tears (ws.take k) ks) ⟨x.p, x.s.extract 0 (min (max y 0) (x.s.size : Int)).toNat⟩ (wr.alloc (.cells #[.int .i64 x.p, .string (x.s.extract 0 (min (max y 0) (x.s.size : Int)).toNat)] 55)) HJ0.out (by rw [← hsn]; exact hpre)
        have hz0 : Sem.run Try.prog (Instr.yield ll #[.agg #[.int .i64 x.p, .string (x.s.extract 0 (min (max y 0) (x.s.size : Int)).toNat)]]) (wr.alloc (.cells #[.int .i64 x.p, .string (x.s.extract 0 (min (max y 0) (x.s.size : Int)).toNat)] 55)) = .ok (Next.round ll fn0 tmps0 assign0 body0) (wr.alloc (.cells #[.int .i64 x.p, .string (x.s.extract 0 (min (max y 0) (x.s.size : Int)).toNat)] 55)) := hy0
        rw [← hsn] at hr0
        clear hy0 hsn hpre hte hx hy hc hc2 hRk hkl hkq hB hj
        gi_wp2
        refine hr0.mono ?_
        rintro e W1 ⟨rfl, J1, q0⟩
        have HJ1 := Lib.hid J1
        have HB3 := HB2.out.trans q0
        clear hr0 hz0 q0 J1 c1 c2 c3 gl
        gi_wp2
        go_roundw
        case rel => exact ⟨k + 1, by omega, by go_num, HJ1, HB3⟩
        case measure => simp [intOf]; omega
      · obtain rfl : k = M := by omega
        have htk : tears (ws.take k) ks = tears ws ks := List.IsPrefix.eq_of_length (tears_prefix ws ks k) (by
          rw [tears_length, List.length_take, HTL.out, HM.out, HQ.out]
          have := HMIN.out
          omega)
        have hj2 := hj.out
        rw [htk] at hj2
        have HJ2 := Lib.hid hj2
        clear hj2 hj htk
        gi_wp2
        go_end0
        exact ⟨⟨_, rfl⟩, HJ2.out⟩
end Go.Proofs.Ytpkoonokagchgaa
