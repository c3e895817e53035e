/- What done answers: sectors with all writes done, for every function that goes through these writes. Conditions: 1 to 4096 sectors of one size, writes that fit them. -/
import Derived.Test.YtpkoonokagchgaaDo
import Derived.Laws.EntriesVeiled
namespace Go.Proofs.Ytpkoonokagchgaa
open Go.ChangeShapes Go.WideShapes Go.ChangeAt Go.RowKit
attribute [local go_sem] Oper.semAt_some

/-- What the worlds of done hold of its variables. -/
structure DAt (w W : World) (s f g n c : Nat) (l : List ByteArray) : Prop where
  xs : Bx W s 22 #[.slice (some ⟨g, 0, none⟩) n c]
  xf : Bx W f 96 #[.func (.func 55) #[] #[.pointer (some ⟨s, 0, none⟩)]]
  o : W.ownsRow w.heap.size 9 1 (.slice (some ⟨g, 0, none⟩) n c) n (tcells l)
  b : Below w.heap.size w W

theorem DAt.ne {w W : World} {s f g n c : Nat} {l : List ByteArray} (h : DAt w W s f g n c l) : s ≠ g ∧ f ≠ g := by
  obtain ⟨h1, h2 | ⟨g', cap, cur, h3, h4, h5, _⟩⟩ := h.o
  · simp at h2
  · simp only [Value.slice.injEq, Option.some.injEq, Addr.mk.injEq, and_true, true_and] at h3
    obtain ⟨rfl, _⟩ := h3
    have hs := h.xs
    have hf := h.xf
    unfold Bx at hs hf
    constructor
    · rintro rfl
      rw [hs] at h5
      simp at h5
    · rintro rfl
      rw [hf] at h5
      simp at h5
theorem DAt.below {w W W' : World} {s f g n c : Nat} {l : List ByteArray} (h : DAt w W s f g n c l) (hb : Below W.heap.size W W') : DAt w W' s f g n c l :=
  ⟨h.xs.below hb, h.xf.below hb, owns_below h.o hb, below_trans h.b hb⟩
theorem DAt.loose {w W W' : World} {s f g n c B : Nat} {l : List ByteArray} (h : DAt w W s f g n c l) (hB : w.heap.size ≤ B) (hl : Loose B W W') : DAt w W' s f g n c l := by
  refine ⟨hl.same _ _ h.xs (.inr rfl), hl.same _ _ h.xf (.inr rfl), ⟨h.o.1, ?_⟩, hl.os.trans h.b.os, hl.tape.trans h.b.tape, hl.output.trans h.b.output, Nat.le_trans h.b.size hl.size, fun k hk => ?_⟩
  · rcases h.o.2 with h0 | ⟨g', cap, cur, e, hg, hh, rest⟩
    · exact .inl h0
    · exact .inr ⟨g', cap, cur, e, hg, hl.same _ _ hh (.inr rfl), rest⟩
  · have hlt : k < W.heap.size := Nat.lt_of_lt_of_le hk h.b.size
    have hX := h.b.block k hk
    rw [← hX]
    exact (hl.same k _ (Array.getElem?_eq_getElem hlt) (.inl (by omega))).trans (Array.getElem?_eq_getElem hlt).symm

theorem below_putObj {B : Nat} (W : World) (l : Nat) (o' : Obj) (hl : B ≤ l) : Below B W (W.putObj l o') :=
  ⟨rfl, rfl, rfl, by simp, fun k hk => World.putObj_heap_other (by omega)⟩

set_option maxRecDepth 100000 in
set_option maxHeartbeats 4000000 in
theorem done_any {z : Nat} (gf : Nat) (lb : Array Value) (eg : ∀ args w, (callFunc gf args).run Try.prog w = .ok (.enter gf args) w) (L : List Wr) (ks : List ByteArray) (A : Option Addr) (c : Nat) (w : World)
    (hR : RowT w A c ks) (hn1 : 1 ≤ ks.length) (hn2 : ks.length ≤ 4096) (hS : Sized z ks) (hF : Fit ks.length z L) (hseq : ∀ W, Below w.heap.size w W → SeqList Fence.wide 7 Try.prog gf lb encW (Below w.heap.size) L W) :
    Calls Try.prog 40 #[.slice A ks.length c, .func (.func gf) #[] lb] w fun e w' => ∃ A' c', e = .returned (.slice A' ks.length c') ∧ RowT w' A' c' (image ks L) ∧ NewA w A' ∧ Below w.heap.size w w' := by
  have HC := Lib.hid (cloneS_any A c ks w hR.k hR.nn (by omega))
  have HS := Lib.hid hS
  have HF := Lib.hid hF
  have HQ := Lib.hid hseq
  have HE := Lib.hid eg
  have HIL := Lib.hid (image_length ks)
  clear hR hS hF hseq eg
  generalize hkn : ks.length = n at *
  have HN := Lib.hid hkn
  clear hkn
  refine (callsIn_wide (n := 8)).1 ?_
  refine callsIn_of_wp_marks Try.func40 rfl trivial ?_ rfl
  simp only [Try.ntmps40, List.size_toArray, List.length_cons, List.length_nil, Nat.reduceAdd, Nat.reduceSub, Array.replicate_succ, Array.replicate_zero, List.push_toArray, List.append_toArray, List.nil_append, List.cons_append]
  gi_wp2_with fail
  refine ⟨trivial, (callsIn_wide.2 HC.out).mono ?_⟩
  rintro e W1 ⟨A1, c1, rfl, hown, hb⟩
  obtain ⟨g, c2, he, hg1, hg2⟩ := own_some hown (by omega)
  simp only [Value.slice.injEq, true_and] at he
  obtain ⟨rfl, rfl⟩ := he
  have D2 : DAt w ((W1.alloc (.cells #[.slice (some ⟨g, 0, none⟩) n c1] 22)).alloc (.cells #[.func (.func 55) #[] #[.pointer (some ⟨W1.heap.size, 0, none⟩)]] 96)) W1.heap.size (W1.heap.size + 1) g n c1 ks := by
    refine ⟨(Bx.new W1 22 _).below (alloc_below _ _), ?_, (hown.alloc _).alloc _, (hb.alloc hb.size _).alloc (by have := hb.size; simp; omega) _⟩
    have := Bx.new (W1.alloc (.cells #[.slice (some ⟨g, 0, none⟩) n c1] 22)) 96 #[.func (.func 55) #[] #[.pointer (some ⟨W1.heap.size, 0, none⟩)]]
    simpa using this
  have HD2 := Lib.hid D2
  have HG := Lib.hid hg2
  clear D2 hown hb hg1 hg2 HC
  gi_wp2_with fail
  generalize hV : (W1.alloc (.cells #[.slice (some ⟨g, 0, none⟩) n c1] 22)).alloc (.cells #[.func (.func 55) #[] #[.pointer (some ⟨W1.heap.size, 0, none⟩)]] 96) = V at *
  have hVs : V.heap.size = W1.heap.size + 1 + 1 := by rw [← hV]; simp
  have HV := Lib.hid hVs
  clear hV hVs
  have hwV : Below w.heap.size w V := HD2.out.b
  have hgV : g < V.heap.size := by have := HG.out; have := HV.out; omega
  refine wpIn_range_list rfl (by omega) (gf := gf) (lb := lb) rfl trivial HE.out (HQ.out V hwV) (fun h k => h.trans k) (fun W l o' hl => below_putObj W l o' (Nat.le_trans hwV.size hl)) (fun _ => rfl)
    (fun pre W => DAt w W W1.heap.size (W1.heap.size + 1) g n c1 (image ks pre)) (fun pre X Y hX hL => hX.loose hwV.size hL) HD2.out
    (fun x N => { tmps := #[.slice A n c, .func (.func gf) #[] lb, undef, undef, .slice none 0 0, .pointer (some ⟨W1.heap.size, 0, none⟩), .pointer (some ⟨W1.heap.size + 1, 0, none⟩), .pointer (some ⟨N, 0, none⟩), .slice A n c, .slice (some ⟨g, 0, none⟩) n c1, .func (.func 55) #[] #[.pointer (some ⟨W1.heap.size, 0, none⟩)], .func (.func gf) #[] lb, .agg #[.int .i64 x.p, .string x.s], undef, undef, undef, undef, undef, undef, undef, undef], defers := [] })
    (fun x => .cells #[.int .i64 x.p, .string x.s] 55) (fun W o hl => (Below.refl _ W).alloc (Nat.le_trans hwV.size hl) o) ?assign ?body ?done
  case assign =>
    intro l x W K hK
    unfold encW
    gi_wp2
    exact hK
  case body =>
    rintro ll pre x N W hD hpre hN hbox
    have hx : x ∈ L := hpre.subset (by simp)
    obtain ⟨f0, f1, f2⟩ := HF.out x hx
    have hbx : Bx W N 55 #[.int .i64 x.p, .string x.s] := hbox
    have c0 := hbx.cell 0 (v := .int .i64 x.p) rfl
    have c1' := hbx.cell 1 (v := .string x.s) rfl
    have c2 := hD.xs.cell 0 (v := .slice (some ⟨g, 0, none⟩) n c1) rfl
    have c3 := hD.xf.cell 0 (v := .func (.func 55) #[] #[.pointer (some ⟨W1.heap.size, 0, none⟩)]) rfl
    have hhas : hasB n x.p = true := hasB_iff.2 ⟨f0, f1⟩
    have HD := Lib.hid hD
    have HX : Hid (0 ≤ x.p ∧ x.p < n ∧ x.s.size ≤ z) := Lib.hid ⟨f0, f1, f2⟩
    have HW := Lib.hid hwV
    have HGV := Lib.hid hgV
    have HPRE := Lib.hid (show Fit n z pre from fun y hy => HF.out y (hpre.subset (by simp [hy])))
    clear hD hpre hx hbx hbox f0 f1 f2 hwV hgV hN
    gi_wp2_with fail
    refine ⟨trivial, (callsIn_wide.2 (has_any _ _ _ _ _)).mono ?_⟩
    rintro e W2 ⟨rfl, rfl⟩
    rw [hhas]
    have hil := HIL.out pre
    have HDO := Lib.hid (do_any (z := z) (l := image ks pre) (x := x) W1.heap.size g c1 w.heap.size W (by rw [hil]; exact HD.out.xs) (by rw [hil]; exact HD.out.o) (HS.out.image (by rw [HN.out]; exact HPRE.out)) (by rw [hil]; exact HX.out))
    rw [hil] at HDO
    gi_wp2_with fail
    refine ⟨trivial, (callsIn_wide.2 HDO.out).mono ?_⟩
    rintro e W3 ⟨⟨v, rfl⟩, own3, grow3⟩
    have hg3 := HGV.out
    have ne3 := HD.out.ne
    have hn3 : DAt w W3 W1.heap.size (W1.heap.size + 1) g n c1 (image ks (pre ++ [x])) := by
      rw [image_snoc]
      have hgw := (own3.lt g rfl).1
      exact ⟨(grow3.block _ HD.out.xs.lt (by simp; exact ne3.1)).trans HD.out.xs, (grow3.block _ HD.out.xf.lt (by simp; exact ne3.2)).trans HD.out.xf, own3, HD.out.b.grown grow3 HD.out.b.size (fun k hk => by simp only [Option.some.injEq] at hk; omega)⟩
    have hk3 : Below w.heap.size W W3 := (Below.refl _ W).grown grow3 HD.out.b.size (fun k hk => by
      have hgw := (own3.lt g rfl).1
      simp only [Option.some.injEq] at hk
      omega)
    have HN3 := Lib.hid hn3
    have HK3 := Lib.hid hk3
    have HF3 := Lib.hid (KeepsFrom.of_grownBy grow3 (B := V.heap.size) (fun k hk => by simp only [Option.some.injEq] at hk; omega))
    clear hn3 hk3 own3 grow3 ne3 c0 c1' c2 c3 hil HDO
    gi_wp2
    exact ⟨HF3.out, HK3.out, HN3.out⟩
  case done =>
    rintro D W' hD hI hKd
    have hlast := hI.loose hwV.size (Loose.put (.deferred none) hD hKd rfl)
    have c2 := hI.xs.cell 0 (v := .slice (some ⟨g, 0, none⟩) n c1) rfl
    have HL := Lib.hid hlast
    have HKD := Lib.hid hKd
    clear hlast hI hKd hwV hgV
    gi_wp2
    refine ⟨by simp, .inl ⟨_, _, rfl, run_takeDeferred HKD.out, ?_⟩⟩
    exact ⟨_, results_tmp rfl _ _ _, ⟨_, _, rfl, rowT_own HL.out.o (HIL.out L).symm, newA_own HL.out.o, HL.out.b⟩⟩
end Go.Proofs.Ytpkoonokagchgaa
