/- What sysl.element answers of the text of an element that may be. -/
import Derived.Test.YtmmghppjhmdikaaGreatDoorAF14
import Derived.RegionTactic
import Derived.BigRegion
import Derived.Laws.EntriesVeiled
import Derived.WalkMore
import Derived.Deep.RegionHeld3
namespace Go.Proofs.YtmmghppjhmdikaaGreatDoor
open Go.ChangeShapes Go.WideShapes Go.ChangeAt Go.RowKit

theorem info54 : (Tryz.prog.info? 74).map (fun i => (i.zero, i.size, i.bytes)) = some (some (.agg #[.string ⟨#[]⟩, .string ⟨#[]⟩]), 2, 32) := by kernel_rfl
theorem info54_of : ∃ i, Tryz.prog.info? 74 = some i ∧ i.zero = some (.agg #[.string ⟨#[]⟩, .string ⟨#[]⟩]) ∧ i.size = 2 ∧ i.bytes = 32 := by
  have h := info54
  cases hi : Tryz.prog.info? 74 with
  | none => rw [hi] at h; cases h
  | some j => rw [hi] at h; simp only [Option.map_some, Option.some.injEq, Prod.mk.injEq] at h; exact ⟨j, rfl, h.1, h.2.1, h.2.2⟩
theorem slice_of {W : World} {base : Nat} {e : TypeId} {size n : Nat} {v : Value} {xs : List Value} (h : W.ownsRow base e size v (n + 1) xs) : ∃ a c, v = .slice a (n + 1) c := by
  rcases h.2 with ⟨_, hn⟩ | ⟨g, cap, cur, rfl, _⟩
  · omega
  · exact ⟨_, _, rfl⟩
/-- What element answers: the element, what is left. -/
def ElemAns (w : World) (e : Elm) (t : List UInt8) (x : Ending) (w' : World) : Prop :=
  ∃ la lc, x = .returned (.tuple #[.agg #[.string e.1, .slice la e.2.length lc], .string (bytes t), .bool true]) ∧ Below w.heap.size w w' ∧ w'.ownsRow (w.heap.size + 2) 74 2 (.slice la e.2.length lc) e.2.length (pcells e.2)
set_option maxHeartbeats 8000000 in
set_option maxRecDepth 100000 in
theorem element_good (e : Elm) (t : List UInt8) (w : World) (hn : nameB e.1.data.toList = true) (hps : ∀ p ∈ e.2, nameB p.1.data.toList = true) (h64 : e.2.length ≤ 64) (hl : (elmT e ++ t).length ≤ 1073741824) :
    Calls Tryz.prog 48 #[.string (bytes (elmT e ++ t))] w (ElemAns w e t) := by
  obtain ⟨i0, hi, hz0, hz1, hz2⟩ := info54_of
  have HI := Lib.hid hi
  have HI0 := Lib.hid hz0
  have HI1 := Lib.hid hz1
  have HI2 := Lib.hid hz2
  clear hi hz0 hz1 hz2
  obtain ⟨id, ps⟩ := e
  obtain ⟨r0, hr0⟩ : ∃ r0, id.data.toList ++ (prmsT ps ++ 93 :: t) = r0 := ⟨_, rfl⟩
  have hT : elmT (id, ps) ++ t = 91 :: r0 := by rw [← hr0]; simp [elmT]
  obtain ⟨c1, r1, hr1, hc1⟩ := prms_head ps t
  have hr01 : id.data.toList ++ c1 :: r1 = r0 := by rw [← hr0, hr1]
  have hl0 : r0.length + 1 ≤ 1073741824 := by rw [hT] at hl; simpa using hl
  have hl1 : r1.length + 1 ≤ 1073741824 := by rw [← hr01] at hl0; simp at hl0; omega
  rw [hT]
  have S1 := Lib.hid (fun b W hc hf => sign_is ⟨#[91]⟩ (91 :: r0) r0 true b W (pre_hit 91 r0) hc hf)
  have N1 := Lib.hid (fun b W hb hc hf => name_good id.data.toList r1 c1 b W hn hc1 (by rw [hr01]; omega) hb hc hf)
  rw [hr01, bytes_self] at N1
  have HR1 := Lib.hid hr1
  have HPS := Lib.hid hps
  have HL1 := Lib.hid hl1
  clear hT hr0 hr01 hc1 hl hl0 hn hps
  go_enter Tryz.func48, Tryz.ntmps48
  go_wp2_with fail
  obtain ⟨W0, hW0⟩ : ∃ W0, ((w.alloc (.cells #[.string ⟨#[]⟩, .slice none 0 0] 58)).alloc (.cells #[.string (bytes (91 :: r0))] 9)) = W0 := ⟨_, rfl⟩
  have h0 : EAt w W0 (.string ⟨#[]⟩) (.slice none 0 0) (91 :: r0) [] := by
    rw [← hW0]
    constructor
    · simp [go_sem]
    · simp [go_sem]
    · simp [go_sem]
    · simp
    · intro o; simp [go_sem]
    · intro o; simp [go_sem]
    · exact ((Below.refl _ _).alloc (Nat.le_refl _) _).alloc (by simp) _
    · exact World.ownsRow_nil _ _ _ _
  rw [hW0]
  clear hW0
  refine (S1.out _ _ h0.kr (h0.f1 0)).mono ?_
  rintro x W1 ⟨rfl, rfl⟩
  have h1 := h0.setr r0
  clear h0
  generalize W0.setCell ⟨w.heap.size + 1, 0, none⟩ (.string (bytes r0)) = W1 at h1 ⊢
  go_wp2_with fail
  refine (N1.out _ _ h1.z h1.kr (h1.f1 0)).mono ?_
  rintro x W2 ⟨rfl, V2, hB, rfl⟩
  have h2 := (h1.below hB).setr (c1 :: r1)
  rw [← HR1.out] at h2 ⊢
  clear h1 hB
  generalize V2.setCell ⟨w.heap.size + 1, 0, none⟩ (.string (bytes (prmsT ps ++ 93 :: t))) = W2 at h2 ⊢
  have k0 := h2.k0
  have f0 := h2.f0
  have h3 := h2.set0 (.string id)
  clear h2
  go_wp2
  clear k0 f0
  generalize W2.setCell ⟨w.heap.size, 0, none⟩ (.string id) = W3 at h3 ⊢
  clear S1 N1
  go_loopg [4] (ps.length + 1) (fun g v wr => ∃ (k : Nat) (lv : Value), k ≤ ps.length ∧ k + g = ps.length + 1 ∧ v = .bool true ∧ EAt w wr (.string id) lv (prmsT (ps.drop k) ++ 93 :: t) (ps.take k))
  case atStart => exact ⟨0, _, Nat.zero_le _, by omega, rfl, by simpa using h3⟩
  case round =>
    obtain ⟨k, lv, hk, hg, rfl, hE⟩ := hrel
    obtain ⟨la, lc, hlv, hin⟩ := hE.prms
    have hkl : (ps.take k).length = k := by rw [List.length_take]; omega
    rw [hkl] at hlv
    subst hlv
    have k1 := hE.k1
    by_cases hlt : k < ps.length
    · obtain ⟨p, hp⟩ : ∃ p, ps[k]? = some p := ⟨ps[k]'hlt, List.getElem?_eq_getElem _⟩
      have hstep := prms_step hp t
      have hnm : nameB p.1.data.toList = true := HPS.out p (List.mem_of_getElem? hp)
      obtain ⟨R', hR'⟩ : ∃ R', prmsT (ps.drop (k + 1)) ++ 93 :: t = R' := ⟨_, rfl⟩
      rw [hR'] at hstep
      have hlen : (prmsT (ps.drop k) ++ 93 :: t).length ≤ 1073741824 := by
        have e1 : prmsT ps = prmsT (ps.take k) ++ prmsT (ps.drop k) := by
          unfold prmsT; rw [← List.flatMap_append, List.take_append_drop]
        have e2 := congrArg List.length HR1.out
        rw [e1] at e2
        have e3 := HL1.out
        simp at e2 ⊢
        omega
      rw [hstep] at hE hlen
      obtain ⟨q, hq⟩ : ∃ q, valueL p.2.data.toList ++ 34 :: R' = q := ⟨_, rfl⟩
      rw [hq] at hE hlen
      have hTV : takeV (bytes q).data.toList = some (p.2.data.toList, R') := by rw [bytes_list, ← hq]; exact takeV_value _ _
      have hql : q.length ≤ 1073741824 := by simp at hlen; omega
      obtain ⟨q1, hq1⟩ : ∃ q1, p.1.data.toList ++ 61 :: 34 :: q = q1 := ⟨_, rfl⟩
      rw [hq1] at hE hlen
      have SB := Lib.hid (fun b W hc hf => sign_is ⟨#[32]⟩ (32 :: q1) q1 true b W (pre_hit 32 q1) hc hf)
      have NM := Lib.hid (fun b W hb hc hf => name_good p.1.data.toList (34 :: q) 61 b W hnm rfl (by rw [hq1]; simp at hlen; omega) hb hc hf)
      rw [hq1, bytes_self] at NM
      have S2 := Lib.hid (fun b W hc hf => sign_is ⟨#[61, 34]⟩ (61 :: 34 :: q) q true b W (pre_hit2 61 34 q) hc hf)
      have TV : Hid (∀ W, Calls Tryz.prog 73 #[.string (bytes q)] W fun e w' => e = .returned (.tuple #[.string p.2, .string (bytes R'), .bool true]) ∧ Below W.heap.size W w') := Lib.hid fun W => by
        have h := takes_any (bytes q) W (by rw [bytes_size]; omega)
        rw [hTV, ends3, bytes_self] at h
        exact h
      have HP := Lib.hid hp
      have HST := Lib.hid hR'
      clear hq hq1 hTV hp hnm hstep hR' hlen
      have hk64 : k < 64 := by omega
      go_wp2_with fail
      refine (SB.out _ _ hE.kr (hE.f1 0)).mono ?_
      rintro x W4 ⟨rfl, rfl⟩
      have h4 := hE.setr q1
      have k1 := h4.k1
      clear hE
      generalize wr.setCell ⟨w.heap.size + 1, 0, none⟩ (.string (bytes q1)) = W4 at h4 k1 ⊢
      go_wp2_with fail
      refine (NM.out _ _ h4.z h4.kr (h4.f1 0)).mono ?_
      rintro x W5 ⟨rfl, V5, hB5, rfl⟩
      have h5 := (h4.below hB5).setr (61 :: 34 :: q)
      clear h4 hB5
      generalize V5.setCell ⟨w.heap.size + 1, 0, none⟩ (.string (bytes (61 :: 34 :: q))) = W5 at h5 ⊢
      go_wp2_with fail
      have h5' := h5.below (W' := W5.alloc (.cells #[.string p.1, .string ⟨#[]⟩] 74)) ((Below.refl _ _).alloc (Nat.le_refl _) _)
      have hz5 := h5.z
      refine (S2.out _ _ h5'.kr (h5'.f1 0)).mono ?_
      rintro x W6 ⟨rfl, rfl⟩
      have h6 := h5'.setr q
      have p0 : ((W5.alloc (.cells #[.string p.1, .string ⟨#[]⟩] 74)).setCell ⟨w.heap.size + 1, 0, none⟩ (.string (bytes q))).cell? ⟨W5.heap.size, 0, none⟩ = some (.string p.1) := by
        rw [World.cell?_of_block (Below.heap_setCell _ _ _ _ (by simp; omega))]; simp [go_sem]
      have p1 : ((W5.alloc (.cells #[.string p.1, .string ⟨#[]⟩] 74)).setCell ⟨w.heap.size + 1, 0, none⟩ (.string (bytes q))).cell? ⟨W5.heap.size, 1, none⟩ = some (.string ⟨#[]⟩) := by
        rw [World.cell?_of_block (Below.heap_setCell _ _ _ _ (by simp; omega))]; simp [go_sem]
      have pf : ∀ o, ((W5.alloc (.cells #[.string p.1, .string ⟨#[]⟩] 74)).setCell ⟨w.heap.size + 1, 0, none⟩ (.string (bytes q))).frozen? ⟨W5.heap.size, o, none⟩ = false := by
        intro o; rw [World.frozen?_of_block (Below.heap_setCell _ _ _ _ (by simp; omega))]; simp [go_sem]
      have pz : W5.heap.size < ((W5.alloc (.cells #[.string p.1, .string ⟨#[]⟩] 74)).setCell ⟨w.heap.size + 1, 0, none⟩ (.string (bytes q))).heap.size := by simp
      have hown5 : ∀ g, (Value.slice la k lc).ownBlock = some g → g < W5.heap.size := fun g hg => (h5.own.lt g hg).2
      clear h5'
      generalize ((W5.alloc (.cells #[.string p.1, .string ⟨#[]⟩] 74)).setCell ⟨w.heap.size + 1, 0, none⟩ (.string (bytes q))) = W6 at h6 p0 p1 pf pz ⊢
      obtain ⟨P, hP⟩ : ∃ P, W5.heap.size = P := ⟨_, rfl⟩
      rw [hP] at p0 p1 pf pz hown5 hz5 ⊢
      clear h5 hP
      have kr := h6.kr
      go_wp2_with fail
      refine (TV.out _).mono ?_
      rintro x W7 ⟨rfl, hB7⟩
      have h7 := h6.below hB7
      have q0 := ((bcell hB7).1 P 0 pz).trans p0
      have q1 := ((bcell hB7).1 P 1 pz).trans p1
      have qf := fun o => ((bcell hB7).2 P o pz).trans (pf o)
      clear h6 hB7 p0 p1 pf pz kr k1
      have n1 : ¬ P = w.heap.size := by omega
      have n2 : ¬ w.heap.size = P := by omega
      have n3 : ¬ P = w.heap.size + 1 := by omega
      have n4 : ¬ w.heap.size + 1 = P := by omega
      have h8 := (h7.other (b := P) (o := 1) (by omega) hown5 (.string p.2)).setr R'
      have k1 := h7.k1
      have kr := h7.kr
      have f0 := h7.f0
      have f1 := h7.f1
      have h9 := h8.below (W' := ((W7.setCell ⟨P, 1, none⟩ (.string p.2)).setCell ⟨w.heap.size + 1, 0, none⟩ (.string (bytes R'))).alloc (.cells #[.string p.1, .string p.2] 74)) ((Below.refl _ _).alloc (Nat.le_refl _) _)
      have own9 := h9.own
      rw [hkl] at own9
      have H9 := Lib.hid h9
      have O9 := Lib.hid own9
      have hz9 := h8.z
      have hN := cells_new ((W7.setCell ⟨P, 1, none⟩ (.string p.2)).setCell ⟨w.heap.size + 1, 0, none⟩ (.string (bytes R'))) #[.string p.1, .string p.2] 74
      rw [show ((W7.setCell ⟨P, 1, none⟩ (.string p.2)).setCell ⟨w.heap.size + 1, 0, none⟩ (.string (bytes R'))).heap.size = W7.heap.size by simp] at hN
      have HN := Lib.hid hN
      clear hN
      clear h9 h8 h7 own9
      go_wp2_with (at_builtin; refine wpList_append_own _ rfl _ _ 56 rfl (w.heap.size + 2) 74 i0 (.agg #[.string ⟨#[]⟩, .string ⟨#[]⟩]) 2 32 Tryz.underlying56 HI.out HI0.out HI1.out HI2.out rfl (by decide) _ k _ rfl O9.out ⟨W7.heap.size, 0, none⟩ 1 1 [.string p.1, .string p.2] rfl rfl HN.out (by simp [Value.oneCell']) (by unfold maxLen; omega) (by omega) (by simp at hz9 ⊢; omega) ?_; intro v1 w1 hown1 hgrow1 _; obtain ⟨a1, cap1, rfl⟩ := slice_of hown1; have ga := (H9.out.grown hgrow1).1; have gb := (H9.out.grown hgrow1).2)
      have hpush := H9.out.push hgrow1 (p := p) (by rw [hkl]; exact hown1)
      have htk : ps.take (k + 1) = ps.take k ++ [p] := by
        obtain ⟨hk2, hx⟩ := List.getElem?_eq_some_iff.1 HP.out
        rw [List.take_succ_eq_append_getElem hk2, hx]
      rw [← htk, ← HST.out] at hpush
      go_roundg (gk - 1)
      case measure => omega
      case rel => exact ⟨k + 1, _, by omega, by omega, rfl, hpush⟩
    · obtain rfl : k = ps.length := by omega
      rw [prms_end (Nat.le_refl _)] at hE
      have SM := Lib.hid (fun b W hc hf => sign_is ⟨#[32]⟩ (93 :: t) (93 :: t) false b W (pre_miss 32 93 t (by decide)) hc hf)
      have SB := Lib.hid (fun b W hc hf => sign_is ⟨#[93]⟩ (93 :: t) t true b W (pre_hit 93 t) hc hf)
      have htk : ps.take ps.length = ps := List.take_length
      by_cases hk64 : ps.length < 64
      · go_wp2_with fail
        refine (SM.out _ _ hE.kr (hE.f1 0)).mono ?_
        rintro x W4 ⟨rfl, rfl⟩
        have h4 := hE.setr (93 :: t)
        clear hE k1
        generalize wr.setCell ⟨w.heap.size + 1, 0, none⟩ (.string (bytes (93 :: t))) = W4 at h4 ⊢
        go_wp2_with fail
        refine (SB.out _ _ h4.kr (h4.f1 0)).mono ?_
        rintro x W5 ⟨rfl, rfl⟩
        have h5 := h4.setr t
        clear h4
        generalize W4.setCell ⟨w.heap.size + 1, 0, none⟩ (.string (bytes t)) = W5 at h5 ⊢
        have k0 : W5.drew.cell? ⟨w.heap.size, 0, none⟩ = some (.string id) := h5.k0
        have k1 : W5.drew.cell? ⟨w.heap.size, 1, none⟩ = some (.slice la ps.length lc) := h5.k1
        have kr : W5.drew.cell? ⟨w.heap.size + 1, 0, none⟩ = some (.string (bytes t)) := h5.kr
        have f0 : ∀ o, W5.drew.frozen? ⟨w.heap.size, o, none⟩ = false := h5.f0
        have f1 : ∀ o, W5.drew.frozen? ⟨w.heap.size + 1, o, none⟩ = false := h5.f1
        have k0' := h5.k0
        have k1' := h5.k1
        have kr' := h5.kr
        have f0' := h5.f0
        have f1' := h5.f1
        go_wp2
        go_region
        go_wp2
        change bodyPost Tryz.prog Tryz.f48 (ElemAns w (id, ps) t) Exit.ret _ _
        have hfin := ((((h5.set0 (.string id)).set1).setr t).below ((Below.refl _ _).drew))
        rw [htk] at hfin
        refine bodyPost_ret (v := .tuple #[.agg #[.string id, .slice la ps.length lc], .string (bytes t), .bool true]) (by simp [results, Tryz.results48, go_sem, k0', k1', kr']) rfl ⟨la, lc, rfl, hfin.b, hfin.own⟩
      · have h4 := hE
        clear hE
        go_wp2_with fail
        refine (SB.out _ _ h4.kr (h4.f1 0)).mono ?_
        rintro x W5 ⟨rfl, rfl⟩
        have h5 := h4.setr t
        clear h4
        generalize wr.setCell ⟨w.heap.size + 1, 0, none⟩ (.string (bytes t)) = W5 at h5 ⊢
        have k0 : W5.drew.cell? ⟨w.heap.size, 0, none⟩ = some (.string id) := h5.k0
        have k1 : W5.drew.cell? ⟨w.heap.size, 1, none⟩ = some (.slice la ps.length lc) := h5.k1
        have kr : W5.drew.cell? ⟨w.heap.size + 1, 0, none⟩ = some (.string (bytes t)) := h5.kr
        have f0 : ∀ o, W5.drew.frozen? ⟨w.heap.size, o, none⟩ = false := h5.f0
        have f1 : ∀ o, W5.drew.frozen? ⟨w.heap.size + 1, o, none⟩ = false := h5.f1
        have k0' := h5.k0
        have k1' := h5.k1
        have kr' := h5.kr
        have f0' := h5.f0
        have f1' := h5.f1
        go_wp2
        go_region
        go_wp2
        change bodyPost Tryz.prog Tryz.f48 (ElemAns w (id, ps) t) Exit.ret _ _
        have hfin := ((((h5.set0 (.string id)).set1).setr t).below ((Below.refl _ _).drew))
        rw [htk] at hfin
        refine bodyPost_ret (v := .tuple #[.agg #[.string id, .slice la ps.length lc], .string (bytes t), .bool true]) (by simp [results, Tryz.results48, go_sem, k0', k1', kr']) rfl ⟨la, lc, rfl, hfin.b, hfin.own⟩
end Go.Proofs.YtmmghppjhmdikaaGreatDoor
