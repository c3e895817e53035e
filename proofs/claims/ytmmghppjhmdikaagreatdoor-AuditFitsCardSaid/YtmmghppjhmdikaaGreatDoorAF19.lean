/- The texts ElementAny, ElementsAny, ParseSums, one behind the other. -/
import Derived.Test.YtmmghppjhmdikaaGreatDoorAF23
import Derived.Test.YtmmghppjhmdikaaGreatDoorAF37
import Derived.Test.YtmmghppjhmdikaaGreatDoorAF31
import Derived.RegionTactic
import Derived.BigRegion
import Derived.Laws.EntriesVeiled
import Derived.Test.YtmmghppjhmdikaaGreatDoorAF35
/- What sysl.element answers of every text that begins with [. Condition: the size. -/
namespace Go.Proofs.YtmmghppjhmdikaaGreatDoor
open Go.ChangeShapes Go.WideShapes Go.ChangeAt Go.RowKit

theorem trim_le (l s : List UInt8) : (Lib.trimPrefix l s).length ≤ l.length := by
  unfold Lib.trimPrefix
  split
  · simp
  · exact Nat.le_refl _
theorem takeV_le : ∀ (n : Nat) (l : List UInt8) (p : List UInt8 × List UInt8), l.length ≤ n → takeV l = some p → p.2.length ≤ l.length ∧ p.1.length ≤ l.length
  | _, [], p, _, h => by cases h
  | _, [c], p, _, h => by
    unfold takeV at h
    split at h
    · cases h; simp
    · cases h
  | 0, c :: d :: r, p, hn, _ => by simp at hn
  | n + 1, c :: d :: r, p, hn, h => by
    rw [takeV] at h
    split at h
    · cases h; simp
    · split at h
      · cases h
      · split at h
        · cases hq : takeV r with
          | none => rw [hq] at h; cases h
          | some q =>
            rw [hq] at h
            cases h
            have := takeV_le n r q (by simp at hn; omega) hq
            simp; omega
        · cases hq : takeV (d :: r) with
          | none => rw [hq] at h; cases h
          | some q =>
            rw [hq] at h
            cases h
            have := takeV_le n (d :: r) q (by simp at hn ⊢; omega) hq
            simp at this ⊢; omega
/-- What element answers of a text that begins with [. -/
def ElementAns (l : List UInt8) (w : World) (x : Ending) (w' : World) : Prop :=
  match elementL l with
  | some p => ElemAns w p.1 p.2 x w'
  | none => ∃ id la n lc r, x = .returned (.tuple #[.agg #[.string id, .slice la n lc], .string r, .bool false]) ∧ Below w.heap.size w w'
theorem element_yes {l : List UInt8} {e : Elm} {t : List UInt8} {w : World} {x : Ending} {w' : World} (h : elementL l = some (e, t)) (ha : ElemAns w e t x w') : ElementAns l w x w' := by
  unfold ElementAns; rw [h]; exact ha
theorem element_no {l : List UInt8} {w : World} {x : Ending} {w' : World} (h : elementL l = none) (ha : ∃ id la n lc r, x = .returned (.tuple #[.agg #[.string id, .slice la n lc], .string r, .bool false]) ∧ Below w.heap.size w w') : ElementAns l w x w' := by
  unfold ElementAns; rw [h]; exact ha
theorem prms_stop {n : Nat} {r : List UInt8} (h : Lib.hasPrefix r [32] = false) : prmsL n r = some ([], r) := by
  cases n with
  | zero => rfl
  | succ n => unfold prmsL; rw [if_neg (by rw [h]; decide)]
theorem prms_no1 {n : Nat} {r r' q : List UInt8} (h : Lib.hasPrefix r [32] = true) (h1 : Lib.trimPrefix r [32] = r') (h2 : r'.drop (nameAt r') = q) (h3 : Lib.hasPrefix q [61, 34] = false) : prmsL (n + 1) r = none := by
  unfold prmsL; rw [if_pos h, h1, h2, if_neg (by rw [h3]; decide)]
theorem prms_no2 {n : Nat} {r r' q q2 : List UInt8} (h : Lib.hasPrefix r [32] = true) (h1 : Lib.trimPrefix r [32] = r') (h2 : r'.drop (nameAt r') = q) (h3 : Lib.hasPrefix q [61, 34] = true) (h4 : Lib.trimPrefix q [61, 34] = q2) (h5 : takeV q2 = none) : prmsL (n + 1) r = none := by
  unfold prmsL; rw [if_pos h, h1, h2, if_pos h3, h4, h5]
theorem prms_yes {n : Nat} {r r' q q2 v t : List UInt8} (h : Lib.hasPrefix r [32] = true) (h1 : Lib.trimPrefix r [32] = r') (h2 : r'.drop (nameAt r') = q) (h3 : Lib.hasPrefix q [61, 34] = true) (h4 : Lib.trimPrefix q [61, 34] = q2) (h5 : takeV q2 = some (v, t)) :
    prmsL (n + 1) r = (prmsL n t).map fun z => ((bytes (r'.take (nameAt r')), bytes v) :: z.1, z.2) := by
  conv => lhs; unfold prmsL
  rw [if_pos h, h1, h2, if_pos h3, h4, h5]
theorem elem_is {r0 r1 : List UInt8} {ID : ByteArray} (h1 : r0.drop (nameAt r0) = r1) (h2 : bytes (r0.take (nameAt r0)) = ID) :
    elementL (91 :: r0) = match prmsL 64 r1 with
      | some p => if Lib.hasPrefix p.2 [93] = true then some ((ID, p.1), Lib.trimPrefix p.2 [93]) else none
      | none => none := by
  unfold elementL
  rw [(pre_hit 91 r0).2, h1, h2]
  rcases prmsL 64 r1 with _ | p <;> rfl
set_option maxHeartbeats 16000000 in
set_option maxRecDepth 100000 in
theorem element_any (r0 : List UInt8) (w : World) (hl : r0.length ≤ 1073741823) :
    Calls Tryz.prog 48 #[.string (bytes (91 :: r0))] w (ElementAns (91 :: r0) w) := by
  obtain ⟨i0, hi, hz0, hz1, hz2⟩ := info54_of
  have HI := Lib.hid hi
  have HI0 := Lib.hid hz0
  have HI1 := Lib.hid hz1
  have HI2 := Lib.hid hz2
  clear hi hz0 hz1 hz2
  obtain ⟨r1, hr1⟩ : ∃ r, r0.drop (nameAt r0) = r := ⟨_, rfl⟩
  obtain ⟨ID, hID⟩ : ∃ r, bytes (r0.take (nameAt r0)) = r := ⟨_, rfl⟩
  have hl1 : r1.length ≤ 1073741823 := by rw [← hr1, List.length_drop]; omega
  have HEL := Lib.hid (elem_is hr1 hID)
  have S1 := Lib.hid (fun b W hc hf => sign_is ⟨#[91]⟩ (91 :: r0) r0 true b W (pre_hit 91 r0) hc hf)
  have N1 := Lib.hid (fun b W hb hc hf => nameE_any r0 b W (by omega) hb hc hf)
  rw [hID, hr1] at N1
  clear hr1 hID
  go_enter Tryz.func48, Tryz.ntmps48
  go_wp2_with fail
  obtain ⟨W0, hW0⟩ : ∃ W0, ((w.alloc (.cells #[.string ⟨#[]⟩, .slice none 0 0] 58)).alloc (.cells #[.string (bytes (91 :: r0))] 9)) = W0 := ⟨_, rfl⟩
  have h0 : EAt w W0 (.string ⟨#[]⟩) (.slice none 0 0) (91 :: r0) [] := by
    rw [← hW0]
    constructor
    · simp [go_sem]
    · simp [go_sem]
    · simp [go_sem]
    · simp
    · intro o; simp [go_sem]
    · intro o; simp [go_sem]
    · exact ((Below.refl _ _).alloc (Nat.le_refl _) _).alloc (by simp) _
    · exact World.ownsRow_nil _ _ _ _
  rw [hW0]
  clear hW0
  refine (S1.out _ _ h0.kr (h0.f1 0)).mono ?_
  rintro x W1 ⟨rfl, rfl⟩
  have h1 := h0.setr r0
  clear h0
  generalize W0.setCell ⟨w.heap.size + 1, 0, none⟩ (.string (bytes r0)) = W1 at h1 ⊢
  go_wp2_with fail
  refine (N1.out _ _ h1.z h1.kr (h1.f1 0)).mono ?_
  rintro x W2 ⟨rfl, V2, hB, rfl⟩
  have h2 := (h1.below hB).setr r1
  clear h1 hB
  generalize V2.setCell ⟨w.heap.size + 1, 0, none⟩ (.string (bytes r1)) = W2 at h2 ⊢
  have k0 := h2.k0
  have f0 := h2.f0
  have h3 := h2.set0 (.string ID)
  clear h2
  go_wp2
  clear k0 f0
  generalize W2.setCell ⟨w.heap.size, 0, none⟩ (.string ID) = W3 at h3 ⊢
  clear S1 N1
  go_loopg [4] 65 (fun g v wr => (v = .bool true ∧ ∃ (k : Nat) (lv : Value) (r : List UInt8) (ps : List Prm), k ≤ 64 ∧ k + g = 65 ∧ ps.length = k ∧ r.length ≤ 1073741823 ∧ EAt w wr (.string ID) lv r ps ∧ Hid (prmsL 64 r1 = (prmsL (64 - k) r).map fun z => (ps ++ z.1, z.2))) ∨ (v = .bool false ∧ ∃ lv r ps, EAt w wr (.string ID) lv r ps ∧ Hid (prmsL 64 r1 = none)))
  case atStart => exact .inl ⟨rfl, 0, _, _, [], by omega, by omega, rfl, hl1, h3, Lib.hid (by simp)⟩
  case round =>
    rcases hrel with hrel | hrel
    · obtain ⟨rfl, k, lv, r, ps, hk, hg, hpl, hrl, hE, HPR0⟩ := hrel
      obtain ⟨la, lc, hlv, hin⟩ := hE.prms
      subst hlv
      subst hpl
      have k1 := hE.k1
      by_cases hk64 : ps.length < 64
      · obtain ⟨n, hn⟩ : ∃ n, 64 - ps.length = n + 1 := ⟨63 - ps.length, by omega⟩
        cases hsp : Lib.hasPrefix r [32] with
        | false =>
          have HPR := Lib.hid (show prmsL 64 r1 = some (ps, r) by rw [HPR0.out, prms_stop hsp]; simp)
          have htr : Lib.trimPrefix r [32] = r := by unfold Lib.trimPrefix; rw [hsp]; rfl
          have SM := Lib.hid (fun b W hc hf => sign_is ⟨#[32]⟩ r r false b W ⟨hsp, htr⟩ hc hf)
          clear hsp htr HPR0 hin
          go_wp2_with fail
          refine (SM.out _ _ hE.kr (hE.f1 0)).mono ?_
          rintro x W4 ⟨rfl, rfl⟩
          have h4 := hE.setr r
          clear hE k1
          generalize wr.setCell ⟨w.heap.size + 1, 0, none⟩ (.string (bytes r)) = W4 at h4 ⊢
          have hELp : elementL (91 :: r0) = if Lib.hasPrefix r [93] = true then some ((ID, ps), Lib.trimPrefix r [93]) else none := by
            rw [HEL.out, HPR.out]
          have HELp := Lib.hid hELp
          obtain ⟨t, ht⟩ : ∃ t, Lib.trimPrefix r [93] = t := ⟨_, rfl⟩
          rw [ht] at HELp
          clear hELp
          cases hp : Lib.hasPrefix r [93] with
          | true =>
            have SQ := Lib.hid (fun b W hc hf => sign_is ⟨#[93]⟩ r t true b W ⟨hp, ht⟩ hc hf)
            rw [hp] at HELp
            clear hp ht
            go_wp2_with fail
            refine (SQ.out _ _ h4.kr (h4.f1 0)).mono ?_
            rintro x WF ⟨rfl, rfl⟩
            have hF := h4.setr t
            clear h4
            generalize W4.setCell ⟨w.heap.size + 1, 0, none⟩ (.string (bytes t)) = WF at hF ⊢
            have k0 : WF.drew.cell? ⟨w.heap.size, 0, none⟩ = some (.string ID) := hF.k0
            have k1 : WF.drew.cell? ⟨w.heap.size, 1, none⟩ = some (.slice la ps.length lc) := hF.k1
            have kr : WF.drew.cell? ⟨w.heap.size + 1, 0, none⟩ = some (.string (bytes t)) := hF.kr
            have f0 : ∀ o, WF.drew.frozen? ⟨w.heap.size, o, none⟩ = false := hF.f0
            have f1 : ∀ o, WF.drew.frozen? ⟨w.heap.size + 1, o, none⟩ = false := hF.f1
            have k0' := hF.k0
            have k1' := hF.k1
            have kr' := hF.kr
            have f0' := hF.f0
            have f1' := hF.f1
            go_wp2
            go_region
            go_wp2
            change bodyPost Tryz.prog Tryz.f48 (ElementAns (91 :: r0) w) Exit.ret _ _
            have hfin := ((((hF.set0 (.string ID)).set1).setr t).below ((Below.refl _ _).drew))
            refine bodyPost_ret (v := .tuple #[.agg #[.string ID, .slice la ps.length lc], .string (bytes t), .bool true]) (by simp [results, Tryz.results48, go_sem, k0', k1', kr']) rfl (element_yes (e := (ID, ps)) (t := t) (by rw [HELp.out]; simp) ⟨la, lc, rfl, hfin.b, hfin.own⟩)
          | false =>
            have SQ := Lib.hid (fun b W hc hf => sign_is ⟨#[93]⟩ r t false b W ⟨hp, ht⟩ hc hf)
            rw [hp] at HELp
            clear hp ht
            go_wp2_with fail
            refine (SQ.out _ _ h4.kr (h4.f1 0)).mono ?_
            rintro x WF ⟨rfl, rfl⟩
            have hF := h4.setr t
            clear h4
            generalize W4.setCell ⟨w.heap.size + 1, 0, none⟩ (.string (bytes t)) = WF at hF ⊢
            have k0 : WF.drew.cell? ⟨w.heap.size, 0, none⟩ = some (.string ID) := hF.k0
            have k1 : WF.drew.cell? ⟨w.heap.size, 1, none⟩ = some (.slice la ps.length lc) := hF.k1
            have kr : WF.drew.cell? ⟨w.heap.size + 1, 0, none⟩ = some (.string (bytes t)) := hF.kr
            have f0 : ∀ o, WF.drew.frozen? ⟨w.heap.size, o, none⟩ = false := hF.f0
            have f1 : ∀ o, WF.drew.frozen? ⟨w.heap.size + 1, o, none⟩ = false := hF.f1
            have k0' := hF.k0
            have k1' := hF.k1
            have kr' := hF.kr
            have f0' := hF.f0
            have f1' := hF.f1
            go_wp2
            go_region
            go_wp2
            change bodyPost Tryz.prog Tryz.f48 (ElementAns (91 :: r0) w) Exit.ret _ _
            have hfin := ((((hF.set0 (.string ID)).set1).setr t).below ((Below.refl _ _).drew))
            refine bodyPost_ret (v := .tuple #[.agg #[.string ID, .slice la ps.length lc], .string (bytes t), .bool false]) (by simp [results, Tryz.results48, go_sem, k0', k1', kr']) rfl (element_no (by rw [HELp.out]; simp) ⟨_, _, _, _, _, rfl, hfin.b⟩)
        | true =>
          obtain ⟨r', hr'⟩ : ∃ r', Lib.trimPrefix r [32] = r' := ⟨_, rfl⟩
          have hl' : r'.length ≤ 1073741823 := by rw [← hr']; exact Nat.le_trans (trim_le _ _) hrl
          obtain ⟨q, hq⟩ : ∃ q, r'.drop (nameAt r') = q := ⟨_, rfl⟩
          have hql : q.length ≤ 1073741823 := by rw [← hq, List.length_drop]; omega
          obtain ⟨NM, hNM⟩ : ∃ N, bytes (r'.take (nameAt r')) = N := ⟨_, rfl⟩
          have SB := Lib.hid (fun b W hc hf => sign_is ⟨#[32]⟩ r r' true b W ⟨hsp, hr'⟩ hc hf)
          have NMC := Lib.hid (fun b W hb hc hf => nameE_any r' b W (by omega) hb hc hf)
          rw [hNM, hq] at NMC
          have HSP := Lib.hid hsp
          have HR' := Lib.hid hr'
          have HQ := Lib.hid hq
          have HNM := Lib.hid hNM
          clear hsp hr' hq hNM hin
          go_wp2_with fail
          refine (SB.out _ _ hE.kr (hE.f1 0)).mono ?_
          rintro x W4 ⟨rfl, rfl⟩
          have h4 := hE.setr r'
          clear hE k1
          generalize wr.setCell ⟨w.heap.size + 1, 0, none⟩ (.string (bytes r')) = W4 at h4 ⊢
          go_wp2_with fail
          refine (NMC.out _ _ h4.z h4.kr (h4.f1 0)).mono ?_
          rintro x W5 ⟨rfl, V5, hB5, rfl⟩
          have h5 := (h4.below hB5).setr q
          clear h4 hB5 SB NMC
          generalize V5.setCell ⟨w.heap.size + 1, 0, none⟩ (.string (bytes q)) = W5 at h5 ⊢
          have h5' := h5.below (W' := W5.alloc (.cells #[.string NM, .string ⟨#[]⟩] 74)) ((Below.refl _ _).alloc (Nat.le_refl _) _)
          have hz5 := h5.z
          have hown5 : ∀ g, (Value.slice la ps.length lc).ownBlock = some g → g < W5.heap.size := fun g hg => (h5.own.lt g hg).2
          cases hqp : Lib.hasPrefix q [61, 34] with
          | false =>
            have htq : Lib.trimPrefix q [61, 34] = q := by unfold Lib.trimPrefix; rw [hqp]; rfl
            have S2 := Lib.hid (fun b W hc hf => sign_is ⟨#[61, 34]⟩ q q false b W ⟨hqp, htq⟩ hc hf)
            have HNO := Lib.hid (show prmsL 64 r1 = none by rw [HPR0.out, hn, prms_no1 HSP.out HR'.out HQ.out hqp]; rfl)
            clear hqp htq HPR0
            go_wp2_with fail
            refine (S2.out _ _ h5'.kr (h5'.f1 0)).mono ?_
            rintro x W6 ⟨rfl, rfl⟩
            have h6 := h5'.setr q
            have p0 : ((W5.alloc (.cells #[.string NM, .string ⟨#[]⟩] 74)).setCell ⟨w.heap.size + 1, 0, none⟩ (.string (bytes q))).cell? ⟨W5.heap.size, 0, none⟩ = some (.string NM) := by
              rw [World.cell?_of_block (Below.heap_setCell _ _ _ _ (by simp; omega))]; simp [go_sem]
            have p1 : ((W5.alloc (.cells #[.string NM, .string ⟨#[]⟩] 74)).setCell ⟨w.heap.size + 1, 0, none⟩ (.string (bytes q))).cell? ⟨W5.heap.size, 1, none⟩ = some (.string ⟨#[]⟩) := by
              rw [World.cell?_of_block (Below.heap_setCell _ _ _ _ (by simp; omega))]; simp [go_sem]
            have pf : ∀ o, ((W5.alloc (.cells #[.string NM, .string ⟨#[]⟩] 74)).setCell ⟨w.heap.size + 1, 0, none⟩ (.string (bytes q))).frozen? ⟨W5.heap.size, o, none⟩ = false := by
              intro o; rw [World.frozen?_of_block (Below.heap_setCell _ _ _ _ (by simp; omega))]; simp [go_sem]
            have pz : W5.heap.size < ((W5.alloc (.cells #[.string NM, .string ⟨#[]⟩] 74)).setCell ⟨w.heap.size + 1, 0, none⟩ (.string (bytes q))).heap.size := by simp
            clear h5'
            generalize ((W5.alloc (.cells #[.string NM, .string ⟨#[]⟩] 74)).setCell ⟨w.heap.size + 1, 0, none⟩ (.string (bytes q))) = W6 at h6 p0 p1 pf pz ⊢
            obtain ⟨P, hP⟩ : ∃ P, W5.heap.size = P := ⟨_, rfl⟩
            rw [hP] at p0 p1 pf pz hown5 hz5 ⊢
            clear h5 hP
            have h7 := h6
            have q0 := p0
            have q1 := p1
            have qf := pf
            have k1 := h7.k1
            have f0 := h7.f0
            have f1 := h7.f1
            have h8 := h7
            have h9 := h8.below (W' := W6.alloc (.cells #[.string NM, .string ⟨#[]⟩] 74)) ((Below.refl _ _).alloc (Nat.le_refl _) _)
            clear h6
            have own9 := h9.own
            have H9 := Lib.hid h9
            have O9 := Lib.hid own9
            have hz9 := h8.z
            have hN := cells_new W6 #[.string NM, .string ⟨#[]⟩] 74
            have HN := Lib.hid hN
            clear hN
            clear h9 h8 h7 own9
            go_wp2_with (at_builtin; refine wpList_append_own _ rfl _ _ 56 rfl (w.heap.size + 2) 74 i0 (.agg #[.string ⟨#[]⟩, .string ⟨#[]⟩]) 2 32 Tryz.underlying56 HI.out HI0.out HI1.out HI2.out rfl (by decide) _ ps.length _ rfl O9.out ⟨W6.heap.size, 0, none⟩ 1 1 [.string NM, .string ⟨#[]⟩] rfl rfl HN.out (by simp [Value.oneCell']) (by unfold maxLen; omega) (by omega) (by simp at hz9 ⊢; omega) ?_; intro v1 w1 hown1 hgrow1 _; obtain ⟨a1, cap1, rfl⟩ := slice_of hown1; have ga := (H9.out.grown hgrow1).1; have gb := (H9.out.grown hgrow1).2)
            have hpush := H9.out.push hgrow1 (p := (NM, ⟨#[]⟩)) hown1
            go_roundg (gk - 1)
            case measure => omega
            case rel => exact .inr ⟨rfl, _, _, _, hpush, HNO⟩
          | true =>
            obtain ⟨q2, hq2⟩ : ∃ q2, Lib.trimPrefix q [61, 34] = q2 := ⟨_, rfl⟩
            have hq2l : q2.length ≤ 1073741823 := by rw [← hq2]; exact Nat.le_trans (trim_le _ _) hql
            have S2 := Lib.hid (fun b W hc hf => sign_is ⟨#[61, 34]⟩ q q2 true b W ⟨hqp, hq2⟩ hc hf)
            have TVA := fun W => takes_any (bytes q2) W (by rw [bytes_size]; omega)
            rw [bytes_list] at TVA
            go_wp2_with fail
            refine (S2.out _ _ h5'.kr (h5'.f1 0)).mono ?_
            rintro x W6 ⟨rfl, rfl⟩
            have h6 := h5'.setr q2
            have p0 : ((W5.alloc (.cells #[.string NM, .string ⟨#[]⟩] 74)).setCell ⟨w.heap.size + 1, 0, none⟩ (.string (bytes q2))).cell? ⟨W5.heap.size, 0, none⟩ = some (.string NM) := by
              rw [World.cell?_of_block (Below.heap_setCell _ _ _ _ (by simp; omega))]; simp [go_sem]
            have p1 : ((W5.alloc (.cells #[.string NM, .string ⟨#[]⟩] 74)).setCell ⟨w.heap.size + 1, 0, none⟩ (.string (bytes q2))).cell? ⟨W5.heap.size, 1, none⟩ = some (.string ⟨#[]⟩) := by
              rw [World.cell?_of_block (Below.heap_setCell _ _ _ _ (by simp; omega))]; simp [go_sem]
            have pf : ∀ o, ((W5.alloc (.cells #[.string NM, .string ⟨#[]⟩] 74)).setCell ⟨w.heap.size + 1, 0, none⟩ (.string (bytes q2))).frozen? ⟨W5.heap.size, o, none⟩ = false := by
              intro o; rw [World.frozen?_of_block (Below.heap_setCell _ _ _ _ (by simp; omega))]; simp [go_sem]
            have pz : W5.heap.size < ((W5.alloc (.cells #[.string NM, .string ⟨#[]⟩] 74)).setCell ⟨w.heap.size + 1, 0, none⟩ (.string (bytes q2))).heap.size := by simp
            clear h5'
            generalize ((W5.alloc (.cells #[.string NM, .string ⟨#[]⟩] 74)).setCell ⟨w.heap.size + 1, 0, none⟩ (.string (bytes q2))) = W6 at h6 p0 p1 pf pz ⊢
            obtain ⟨P, hP⟩ : ∃ P, W5.heap.size = P := ⟨_, rfl⟩
            rw [hP] at p0 p1 pf pz hown5 hz5 ⊢
            clear h5 hP
            have kr := h6.kr
            cases hTV : takeV q2 with
            | none =>
              have HNO := Lib.hid (show prmsL 64 r1 = none by rw [HPR0.out, hn, prms_no2 HSP.out HR'.out HQ.out hqp hq2 hTV]; rfl)
              rw [hTV] at TVA
              have TV : Hid (∀ W, Calls Tryz.prog 73 #[.string (bytes q2)] W fun e w' => e = .returned (.tuple #[.string ⟨#[]⟩, .string ⟨#[]⟩, .bool false]) ∧ Below W.heap.size W w') := Lib.hid TVA
              clear hqp hq2 TVA HPR0 hTV
              go_wp2_with fail
              refine (TV.out _).mono ?_
              rintro x W7 ⟨rfl, hB7⟩
              have h7 := h6.below hB7
              have q0 := ((bcell hB7).1 P 0 pz).trans p0
              have q1 := ((bcell hB7).1 P 1 pz).trans p1
              have qf := fun o => ((bcell hB7).2 P o pz).trans (pf o)
              clear h6 hB7 p0 p1 pf pz kr
              have n1 : ¬ P = w.heap.size := by omega
              have n2 : ¬ w.heap.size = P := by omega
              have n3 : ¬ P = w.heap.size + 1 := by omega
              have n4 : ¬ w.heap.size + 1 = P := by omega
              have h8 := (h7.other (b := P) (o := 1) (by omega) hown5 (.string ⟨#[]⟩)).setr []
              have k1 := h7.k1
              have kr := h7.kr
              have f0 := h7.f0
              have f1 := h7.f1
              have h9 := h8.below (W' := ((W7.setCell ⟨P, 1, none⟩ (.string ⟨#[]⟩)).setCell ⟨w.heap.size + 1, 0, none⟩ (.string ⟨#[]⟩)).alloc (.cells #[.string NM, .string ⟨#[]⟩] 74)) ((Below.refl _ _).alloc (Nat.le_refl _) _)
              have own9 := h9.own
              have H9 := Lib.hid h9
              have O9 := Lib.hid own9
              have hz9 := h8.z
              have hN := cells_new ((W7.setCell ⟨P, 1, none⟩ (.string ⟨#[]⟩)).setCell ⟨w.heap.size + 1, 0, none⟩ (.string ⟨#[]⟩)) #[.string NM, .string ⟨#[]⟩] 74
              rw [show ((W7.setCell ⟨P, 1, none⟩ (.string ⟨#[]⟩)).setCell ⟨w.heap.size + 1, 0, none⟩ (.string ⟨#[]⟩)).heap.size = W7.heap.size by simp] at hN
              have HN := Lib.hid hN
              clear hN
              clear h9 h8 h7 own9
              go_wp2_with (at_builtin; refine wpList_append_own _ rfl _ _ 56 rfl (w.heap.size + 2) 74 i0 (.agg #[.string ⟨#[]⟩, .string ⟨#[]⟩]) 2 32 Tryz.underlying56 HI.out HI0.out HI1.out HI2.out rfl (by decide) _ ps.length _ rfl O9.out ⟨W7.heap.size, 0, none⟩ 1 1 [.string NM, .string ⟨#[]⟩] rfl rfl HN.out (by simp [Value.oneCell']) (by unfold maxLen; omega) (by omega) (by simp at hz9 ⊢; omega) ?_; intro v1 w1 hown1 hgrow1 _; obtain ⟨a1, cap1, rfl⟩ := slice_of hown1; have ga := (H9.out.grown hgrow1).1; have gb := (H9.out.grown hgrow1).2)
              have hpush := H9.out.push hgrow1 (p := (NM, ⟨#[]⟩)) hown1
              go_roundg (gk - 1)
              case measure => omega
              case rel => exact .inr ⟨rfl, _, _, _, hpush, HNO⟩
            | some vt =>
              obtain ⟨v, t⟩ := vt
              have hty := (takeV_le q2.length q2 (v, t) (Nat.le_refl _) hTV).1
              have htl : t.length ≤ 1073741823 := by simp only at hty; omega
              have HPS := Lib.hid (prms_yes (n := n) HSP.out HR'.out HQ.out hqp hq2 hTV)
              rw [HNM.out] at HPS
              rw [hTV] at TVA
              obtain ⟨VB, hVB⟩ : ∃ V, bytes v = V := ⟨_, rfl⟩
              rw [hVB] at HPS
              have TV : Hid (∀ W, Calls Tryz.prog 73 #[.string (bytes q2)] W fun e w' => e = .returned (.tuple #[.string VB, .string (bytes t), .bool true]) ∧ Below W.heap.size W w') := Lib.hid fun W => by
                have h := TVA W
                rw [ends3, hVB] at h
                exact h
              clear hqp hq2 TVA hTV hty hVB
              go_wp2_with fail
              refine (TV.out _).mono ?_
              rintro x W7 ⟨rfl, hB7⟩
              have h7 := h6.below hB7
              have q0 := ((bcell hB7).1 P 0 pz).trans p0
              have q1 := ((bcell hB7).1 P 1 pz).trans p1
              have qf := fun o => ((bcell hB7).2 P o pz).trans (pf o)
              clear h6 hB7 p0 p1 pf pz kr
              have n1 : ¬ P = w.heap.size := by omega
              have n2 : ¬ w.heap.size = P := by omega
              have n3 : ¬ P = w.heap.size + 1 := by omega
              have n4 : ¬ w.heap.size + 1 = P := by omega
              have h8 := (h7.other (b := P) (o := 1) (by omega) hown5 (.string VB)).setr t
              have k1 := h7.k1
              have kr := h7.kr
              have f0 := h7.f0
              have f1 := h7.f1
              have h9 := h8.below (W' := ((W7.setCell ⟨P, 1, none⟩ (.string VB)).setCell ⟨w.heap.size + 1, 0, none⟩ (.string (bytes t))).alloc (.cells #[.string NM, .string VB] 74)) ((Below.refl _ _).alloc (Nat.le_refl _) _)
              have own9 := h9.own
              have H9 := Lib.hid h9
              have O9 := Lib.hid own9
              have hz9 := h8.z
              have hN := cells_new ((W7.setCell ⟨P, 1, none⟩ (.string VB)).setCell ⟨w.heap.size + 1, 0, none⟩ (.string (bytes t))) #[.string NM, .string VB] 74
              rw [show ((W7.setCell ⟨P, 1, none⟩ (.string VB)).setCell ⟨w.heap.size + 1, 0, none⟩ (.string (bytes t))).heap.size = W7.heap.size by simp] at hN
              have HN := Lib.hid hN
              clear hN
              clear h9 h8 h7 own9
              go_wp2_with (at_builtin; refine wpList_append_own _ rfl _ _ 56 rfl (w.heap.size + 2) 74 i0 (.agg #[.string ⟨#[]⟩, .string ⟨#[]⟩]) 2 32 Tryz.underlying56 HI.out HI0.out HI1.out HI2.out rfl (by decide) _ ps.length _ rfl O9.out ⟨W7.heap.size, 0, none⟩ 1 1 [.string NM, .string VB] rfl rfl HN.out (by simp [Value.oneCell']) (by unfold maxLen; omega) (by omega) (by simp at hz9 ⊢; omega) ?_; intro v1 w1 hown1 hgrow1 _; obtain ⟨a1, cap1, rfl⟩ := slice_of hown1; have ga := (H9.out.grown hgrow1).1; have gb := (H9.out.grown hgrow1).2)
              have hpush := H9.out.push hgrow1 (p := (NM, VB)) hown1
              have hpr : prmsL 64 r1 = (prmsL (64 - (ps.length + 1)) t).map fun z => ((ps ++ [(NM, VB)]) ++ z.1, z.2) := by
                rw [HPR0.out, hn, HPS.out, show 64 - (ps.length + 1) = n by omega, Option.map_map]
                congr 1
                funext z
                simp
              have HPR1 := Lib.hid hpr
              clear hpr
              go_roundg (gk - 1)
              case measure => omega
              case rel => exact .inl ⟨rfl, ps.length + 1, _, _, _, by omega, by omega, by simp, htl, hpush, HPR1⟩
      · have HPR := Lib.hid (show prmsL 64 r1 = some (ps, r) by
          rw [HPR0.out, show 64 - ps.length = 0 by omega]
          show (some ([], r)).map _ = _
          simp)
        have h4 := hE
        clear hE HPR0 hin
        have hELp : elementL (91 :: r0) = if Lib.hasPrefix r [93] = true then some ((ID, ps), Lib.trimPrefix r [93]) else none := by
          rw [HEL.out, HPR.out]
        have HELp := Lib.hid hELp
        obtain ⟨t, ht⟩ : ∃ t, Lib.trimPrefix r [93] = t := ⟨_, rfl⟩
        rw [ht] at HELp
        clear hELp
        cases hp : Lib.hasPrefix r [93] with
        | true =>
          have SQ := Lib.hid (fun b W hc hf => sign_is ⟨#[93]⟩ r t true b W ⟨hp, ht⟩ hc hf)
          rw [hp] at HELp
          clear hp ht
          go_wp2_with fail
          refine (SQ.out _ _ h4.kr (h4.f1 0)).mono ?_
          rintro x WF ⟨rfl, rfl⟩
          have hF := h4.setr t
          clear h4
          generalize wr.setCell ⟨w.heap.size + 1, 0, none⟩ (.string (bytes t)) = WF at hF ⊢
          have k0 : WF.drew.cell? ⟨w.heap.size, 0, none⟩ = some (.string ID) := hF.k0
          have k1 : WF.drew.cell? ⟨w.heap.size, 1, none⟩ = some (.slice la ps.length lc) := hF.k1
          have kr : WF.drew.cell? ⟨w.heap.size + 1, 0, none⟩ = some (.string (bytes t)) := hF.kr
          have f0 : ∀ o, WF.drew.frozen? ⟨w.heap.size, o, none⟩ = false := hF.f0
          have f1 : ∀ o, WF.drew.frozen? ⟨w.heap.size + 1, o, none⟩ = false := hF.f1
          have k0' := hF.k0
          have k1' := hF.k1
          have kr' := hF.kr
          have f0' := hF.f0
          have f1' := hF.f1
          go_wp2
          go_region
          go_wp2
          change bodyPost Tryz.prog Tryz.f48 (ElementAns (91 :: r0) w) Exit.ret _ _
          have hfin := ((((hF.set0 (.string ID)).set1).setr t).below ((Below.refl _ _).drew))
          refine bodyPost_ret (v := .tuple #[.agg #[.string ID, .slice la ps.length lc], .string (bytes t), .bool true]) (by simp [results, Tryz.results48, go_sem, k0', k1', kr']) rfl (element_yes (e := (ID, ps)) (t := t) (by rw [HELp.out]; simp) ⟨la, lc, rfl, hfin.b, hfin.own⟩)
        | false =>
          have SQ := Lib.hid (fun b W hc hf => sign_is ⟨#[93]⟩ r t false b W ⟨hp, ht⟩ hc hf)
          rw [hp] at HELp
          clear hp ht
          go_wp2_with fail
          refine (SQ.out _ _ h4.kr (h4.f1 0)).mono ?_
          rintro x WF ⟨rfl, rfl⟩
          have hF := h4.setr t
          clear h4
          generalize wr.setCell ⟨w.heap.size + 1, 0, none⟩ (.string (bytes t)) = WF at hF ⊢
          have k0 : WF.drew.cell? ⟨w.heap.size, 0, none⟩ = some (.string ID) := hF.k0
          have k1 : WF.drew.cell? ⟨w.heap.size, 1, none⟩ = some (.slice la ps.length lc) := hF.k1
          have kr : WF.drew.cell? ⟨w.heap.size + 1, 0, none⟩ = some (.string (bytes t)) := hF.kr
          have f0 : ∀ o, WF.drew.frozen? ⟨w.heap.size, o, none⟩ = false := hF.f0
          have f1 : ∀ o, WF.drew.frozen? ⟨w.heap.size + 1, o, none⟩ = false := hF.f1
          have k0' := hF.k0
          have k1' := hF.k1
          have kr' := hF.kr
          have f0' := hF.f0
          have f1' := hF.f1
          go_wp2
          go_region
          go_wp2
          change bodyPost Tryz.prog Tryz.f48 (ElementAns (91 :: r0) w) Exit.ret _ _
          have hfin := ((((hF.set0 (.string ID)).set1).setr t).below ((Below.refl _ _).drew))
          refine bodyPost_ret (v := .tuple #[.agg #[.string ID, .slice la ps.length lc], .string (bytes t), .bool false]) (by simp [results, Tryz.results48, go_sem, k0', k1', kr']) rfl (element_no (by rw [HELp.out]; simp) ⟨_, _, _, _, _, rfl, hfin.b⟩)
    · obtain ⟨rfl, lv, r, ps, hE, HNO⟩ := hrel
      obtain ⟨la, lc, hlv, hin⟩ := hE.prms
      subst hlv
      have HNL := Lib.hid (show elementL (91 :: r0) = none by rw [HEL.out, HNO.out])
      have h4 := hE
      clear hE hin
      have k0 : wr.drew.cell? ⟨w.heap.size, 0, none⟩ = some (.string ID) := h4.k0
      have k1 : wr.drew.cell? ⟨w.heap.size, 1, none⟩ = some (.slice la ps.length lc) := h4.k1
      have kr : wr.drew.cell? ⟨w.heap.size + 1, 0, none⟩ = some (.string (bytes r)) := h4.kr
      have f0 : ∀ o, wr.drew.frozen? ⟨w.heap.size, o, none⟩ = false := h4.f0
      have f1 : ∀ o, wr.drew.frozen? ⟨w.heap.size + 1, o, none⟩ = false := h4.f1
      have k0' := h4.k0
      have k1' := h4.k1
      have kr' := h4.kr
      have f0' := h4.f0
      have f1' := h4.f1
      go_wp2
      go_region
      go_wp2
      change bodyPost Tryz.prog Tryz.f48 (ElementAns (91 :: r0) w) Exit.ret _ _
      have hfin := ((((h4.set0 (.string ID)).set1).setr r).below ((Below.refl _ _).drew))
      refine bodyPost_ret (v := .tuple #[.agg #[.string ID, .slice la ps.length lc], .string (bytes r), .bool false]) (by simp [results, Tryz.results48, go_sem, k0', k1', kr']) rfl (element_no HNL.out ⟨_, _, _, _, _, rfl, hfin.b⟩)
end Go.Proofs.YtmmghppjhmdikaaGreatDoor
/- What sysl.elements answers of every text. Condition: the size. -/
namespace Go.Proofs.YtmmghppjhmdikaaGreatDoor
open Go.ChangeShapes Go.WideShapes Go.ChangeAt Go.RowKit

/-- What elements answers. -/
def ElementsAns (l : List UInt8) (w : World) (x : Ending) (w' : World) : Prop :=
  match elementsL l with
  | some p => ElmsAns w p.1 p.2 x w'
  | none => (∃ r, x = .returned (.tuple #[.slice none 0 0, .string (bytes r), .bool false])) ∧ Below w.heap.size w w'
theorem elements_yes {l : List UInt8} {es : List Elm} {t : List UInt8} {w : World} {x : Ending} {w' : World} (h : elementsL l = some (es, t)) (ha : ElmsAns w es t x w') : ElementsAns l w x w' := by
  unfold ElementsAns; rw [h]; exact ha
theorem elements_no {l : List UInt8} {w : World} {x : Ending} {w' : World} (h : elementsL l = none) (ha : (∃ r, x = .returned (.tuple #[.slice none 0 0, .string (bytes r), .bool false])) ∧ Below w.heap.size w w') : ElementsAns l w x w' := by
  unfold ElementsAns; rw [h]; exact ha
theorem elms_stop {n : Nat} {r : List UInt8} (h : Lib.hasPrefix r [91] = false) : elmsL n r = some ([], r) := by
  cases n with
  | zero => rfl
  | succ n => unfold elmsL; rw [if_neg (by rw [h]; decide)]
theorem elms_no {n : Nat} {r : List UInt8} (h : Lib.hasPrefix r [91] = true) (h1 : elementL r = none) : elmsL (n + 1) r = none := by
  unfold elmsL; rw [if_pos h, h1]
theorem elms_yes {n : Nat} {r t : List UInt8} {e : Elm} (h : Lib.hasPrefix r [91] = true) (h1 : elementL r = some (e, t)) : elmsL (n + 1) r = (elmsL n t).map fun z => (e :: z.1, z.2) := by
  conv => lhs; unfold elmsL
  rw [if_pos h, h1]
theorem open_head {r : List UInt8} (h : Lib.hasPrefix r [91] = true) : ∃ r0, r = 91 :: r0 := by
  cases r with
  | nil => cases h
  | cons c r0 =>
    have : (91 : UInt8) = c := by simpa [Lib.hasPrefix, List.isPrefixOf] using h
    exact ⟨r0, by rw [this]⟩
theorem prms_le : ∀ (n : Nat) (l : List UInt8) (p : List Prm × List UInt8), prmsL n l = some p → p.2.length ≤ l.length
  | 0, l, p, h => by cases h; exact Nat.le_refl _
  | n + 1, l, p, h => by
    unfold prmsL at h
    split at h
    · split at h
      · split at h
        · rename_i q hq
          cases hz : prmsL n q.2 with
          | none => rw [hz] at h; cases h
          | some z =>
            rw [hz] at h
            cases h
            have h1 := prms_le n q.2 z hz
            have h2 := (takeV_le _ _ q (Nat.le_refl _) hq).1
            have h3 := trim_le ((Lib.trimPrefix l [32]).drop (nameAt (Lib.trimPrefix l [32]))) [61, 34]
            have h4 := trim_le l [32]
            rw [List.length_drop] at h3
            simp only
            omega
        · cases h
      · cases h
    · cases h; exact Nat.le_refl _
theorem element_le {l : List UInt8} {p : Elm × List UInt8} (h : elementL l = some p) : p.2.length ≤ l.length := by
  unfold elementL at h
  split at h
  · rename_i q hq
    split at h
    · cases h
      have h1 := prms_le _ _ _ hq
      have h2 := trim_le q.2 [93]
      have h3 := trim_le l [91]
      rw [List.length_drop] at h1
      simp only
      omega
    · cases h
  · cases h
theorem elements_rest {l : List UInt8} (h : Lib.hasPrefix l [45] = false) : elementsL l = match elmsL 64 l with
    | some p => if p.1 = [] then none else some p
    | none => none := by
  unfold elementsL
  rw [if_neg (by rw [h]; decide)]
  rcases elmsL 64 l with _ | p <;> rfl
set_option maxHeartbeats 16000000 in
set_option maxRecDepth 100000 in
theorem elements_any (l : List UInt8) (w : World) (hl : l.length ≤ 1073741823) :
    Calls Tryz.prog 33 #[.string (bytes l)] w (ElementsAns l w) := by
  obtain ⟨i0, hi, hz0, hz1, hz2⟩ := info52_of
  have HI := Lib.hid hi
  have HI0 := Lib.hid hz0
  have HI1 := Lib.hid hz1
  have HI2 := Lib.hid hz2
  clear hi hz0 hz1 hz2
  have HC := Tryz.strings_CutPrefix (bytes l) ⟨#[45]⟩ w
  rw [bytes_list, show (⟨#[45]⟩ : ByteArray).data.toList = [45] from rfl] at HC
  cases h45 : Lib.hasPrefix l [45] with
  | true =>
    rw [h45] at HC
    have HEL := Lib.hid (show elementsL l = some ([], Lib.trimPrefix l [45]) by unfold elementsL; rw [if_pos h45])
    have HC' : Hid (Calls Tryz.prog 46 #[.string (bytes l), .string ⟨#[45]⟩] w fun e w' => e = .returned (.tuple #[.string (bytes (Lib.trimPrefix l [45])), .bool true]) ∧ w' = w) := Lib.hid HC
    clear HC h45
    go_enter Tryz.func33, Tryz.ntmps33
    go_wp2_with fail
    refine HC'.out.mono ?_
    rintro x w' ⟨rfl, rfl⟩
    go_wp2
    change bodyPost Tryz.prog Tryz.f33 (ElementsAns l w') Exit.ret _ _
    refine bodyPost_ret (v := .tuple #[.slice none 0 0, .string (bytes (Lib.trimPrefix l [45])), .bool true]) (by simp [results, Tryz.results33, go_sem]) rfl (elements_yes HEL.out ⟨none, 0, rfl, fun V _ => ElmsAt.nil V none 0, Below.refl _ _⟩)
  | false =>
    have htr : Lib.trimPrefix l [45] = l := by unfold Lib.trimPrefix; rw [h45]; rfl
    rw [h45, htr] at HC
    have HEL := Lib.hid (elements_rest h45)
    have HC' : Hid (Calls Tryz.prog 46 #[.string (bytes l), .string ⟨#[45]⟩] w fun e w' => e = .returned (.tuple #[.string (bytes l), .bool false]) ∧ w' = w) := Lib.hid HC
    clear HC h45 htr
    go_enter Tryz.func33, Tryz.ntmps33
    go_wp2_with fail
    refine HC'.out.mono ?_
    rintro x w' ⟨rfl, rfl⟩
    go_wp2
    go_loopg [2, 3] 65 (fun g lv rv wr => ∃ (es : List Elm) (rows : List Row) (r : List UInt8), es.length ≤ 64 ∧ es.length + g = 65 ∧ rv = .string (bytes r) ∧ r.length ≤ 1073741823 ∧ LAt w' wr lv es rows ∧ (es = [] → lv = .slice none 0 0) ∧ Hid (elmsL 64 l = (elmsL (64 - es.length) r).map fun z => (es ++ z.1, z.2)))
    case atStart => exact ⟨[], [], l, by simp, by simp, rfl, hl, LAt.start _, fun _ => rfl, Lib.hid (by simp)⟩
    case round =>
      obtain ⟨es, rows, r, hk, hg, rfl, hrl, hE, hnil0, HER⟩ := hrel
      obtain ⟨la, lc, hlv⟩ := hE.shape
      subst hlv
      have HNIL := Lib.hid hnil0
      clear hnil0
      by_cases hk64 : es.length < 64
      · obtain ⟨n, hn⟩ : ∃ n, 64 - es.length = n + 1 := ⟨63 - es.length, by omega⟩
        cases hp : Lib.hasPrefix r [91] with
        | true =>
          have HP := Lib.hid (fun W => prefix_is ⟨#[91]⟩ r true hp W)
          obtain ⟨r0, hr0⟩ := open_head hp
          subst hr0
          have hEl := fun W => element_any r0 W (by simp at hrl; omega)
          cases hx : elementL (91 :: r0) with
          | none =>
            have HNO := Lib.hid (show elementsL l = none by rw [HEL.out, HER.out, hn, elms_no hp hx]; rfl)
            have HEl : Hid (∀ W, Calls Tryz.prog 48 #[.string (bytes (91 :: r0))] W fun x w' => ∃ id la n lc r, x = .returned (.tuple #[.agg #[.string id, .slice la n lc], .string r, .bool false]) ∧ Below W.heap.size W w') := Lib.hid fun W => (hEl W).mono fun x w' h => by
              unfold ElementAns at h; rw [hx] at h; exact h
            clear hEl hx hp HER
            go_wp2_with fail
            refine (HP.out _).mono ?_
            rintro x w1 ⟨rfl, rfl⟩
            go_wp2_with fail
            refine (HEl.out _).mono ?_
            rintro x w2 ⟨id2, la2, n2, lc2, r2, rfl, hB⟩
            have HB2 := Lib.hid (hE.below hB).b
            clear hE hB
            go_wp2
            change bodyPost Tryz.prog Tryz.f33 (ElementsAns l w') Exit.ret _ _
            refine bodyPost_ret (v := .tuple #[.slice none 0 0, .string (bytes []), .bool false]) (by simp [results, Tryz.results33, go_sem]; rfl) rfl (elements_no HNO.out ⟨⟨_, rfl⟩, ?_⟩)
            first
              | exact HB2.out
              | exact HB2.out.alloc HB2.out.size _
              | exact (HB2.out.alloc HB2.out.size _).trans ((Below.refl _ _))
          | some et =>
            obtain ⟨e, R'⟩ := et
            have hle := element_le hx
            have hrl' : R'.length ≤ 1073741823 := by simp only at hle; omega
            have HYES := Lib.hid (elms_yes (n := n) hp hx)
            have HEl : Hid (∀ W, Calls Tryz.prog 48 #[.string (bytes (91 :: r0))] W (ElemAns W e R')) := Lib.hid fun W => (hEl W).mono fun x w' h => by
              unfold ElementAns at h; rw [hx] at h; exact h
            clear hEl hx hp hle
            go_wp2_with fail
            refine (HP.out _).mono ?_
            rintro x w1 ⟨rfl, rfl⟩
            go_wp2_with fail
            refine (HEl.out _).mono ?_
            rintro x w2 ⟨pa, pc, rfl, hB, hpo⟩
            have hsz0 := hE.b.size
            have h2 := hE.below hB
            clear hE
            have hb2 : Below w2.heap.size w2 ((w2.alloc (.cells #[.string e.1, .slice pa e.2.length pc] 58)).alloc (.cells #[.string e.1, .slice pa e.2.length pc] 58)) := ((Below.refl _ _).alloc (Nat.le_refl _) _).alloc (by simp) _
            have hsz := h2.b.size
            have h3 := h2.below hb2
            have hpo3 := kept_below (row_mono hpo (show w'.heap.size ≤ w1.heap.size + 2 by omega)) hb2
            have own3 := h3.own
            have hN := cells_new (w2.alloc (.cells #[.string e.1, .slice pa e.2.length pc] 58)) #[.string e.1, .slice pa e.2.length pc] 58
            rw [show (w2.alloc (.cells #[.string e.1, .slice pa e.2.length pc] 58)).heap.size = w2.heap.size + 1 by simp] at hN
            have HN := Lib.hid hN
            have O3 := Lib.hid own3
            have H3 := Lib.hid h3
            have HPO := Lib.hid hpo3
            clear hN own3 h3 hpo3 hpo h2 hb2 hB
            go_wp2_with (at_builtin; refine wpList_append_own _ rfl _ _ 27 rfl w'.heap.size 58 i0 (.agg #[.string ⟨#[]⟩, .slice none 0 0]) 2 40 Tryz.underlying27 HI.out HI0.out HI1.out HI2.out rfl (by decide) _ es.length _ rfl O3.out ⟨w2.heap.size + 1, 0, none⟩ 1 1 [.string e.1, .slice pa e.2.length pc] rfl rfl HN.out (by simp [Value.oneCell']) (by unfold maxLen; omega) (by omega) (by simp; omega) ?_; intro v1 w3 hown1 hgrow1 _; obtain ⟨a1, cap1, rfl⟩ := slice_of hown1)
            have hpush := H3.out.push HPO.out hgrow1 hown1
            have HER2 := Lib.hid (show elmsL 64 l = (elmsL (64 - (es.length + 1)) R').map fun z => ((es ++ [e]) ++ z.1, z.2) by
              rw [HER.out, hn, HYES.out, show 64 - (es.length + 1) = n by omega, Option.map_map]
              congr 1
              funext z
              simp)
            go_roundg (gk - 1)
            case measure => omega
            case rel => exact ⟨es ++ [e], _, R', by simp; omega, by simp; omega, rfl, hrl', hpush, fun h => by simp at h, by rw [show (es ++ [e]).length = es.length + 1 by simp]; exact HER2⟩
        | false =>
          have HP := Lib.hid (fun W => prefix_is ⟨#[91]⟩ r false hp W)
          have HAL := Lib.hid (show elmsL 64 l = some (es, r) by rw [HER.out, elms_stop hp]; simp)
          clear hp HER
          go_wp2_with fail
          refine (HP.out _).mono ?_
          rintro x w1 ⟨rfl, rfl⟩
          have HE := Lib.hid hE
          clear hE
          by_cases hes : es = []
          · subst hes
            have HNO := Lib.hid (show elementsL l = none by rw [HEL.out, HAL.out]; rfl)
            have hnil : la = none ∧ lc = 0 := by
              have h := HNIL.out rfl
              cases h
              exact ⟨rfl, rfl⟩
            obtain ⟨rfl, rfl⟩ := hnil
            go_wp2
            change bodyPost Tryz.prog Tryz.f33 (ElementsAns l w') Exit.ret _ _
            refine bodyPost_ret (v := .tuple #[.slice none 0 0, .string (bytes r), .bool false]) (by simp [results, Tryz.results33, go_sem]) rfl (elements_no HNO.out ⟨⟨_, rfl⟩, HE.out.b⟩)
          · have HYE := Lib.hid (show elementsL l = some (es, r) by rw [HEL.out, HAL.out]; show (if es = [] then none else some (es, r)) = _; rw [if_neg hes])
            have hpos : 0 < es.length := List.length_pos_iff.2 hes
            clear hes
            go_wp2
            change bodyPost Tryz.prog Tryz.f33 (ElementsAns l w') Exit.ret _ _
            refine bodyPost_ret (v := .tuple #[.slice la es.length lc, .string (bytes r), .bool true]) (by simp [results, Tryz.results33, go_sem]) rfl (elements_yes HYE.out ⟨la, lc, rfl, fun V hV => HE.out.elms hV, HE.out.b⟩)
      · have HAL := Lib.hid (show elmsL 64 l = some (es, r) by
          rw [HER.out, show 64 - es.length = 0 by omega]
          show (some ([], r)).map _ = _
          simp)
        clear HER
        have HE := Lib.hid hE
        clear hE
        by_cases hes : es = []
        · exact absurd (by rw [hes]; decide) hk64
        · have HYE := Lib.hid (show elementsL l = some (es, r) by rw [HEL.out, HAL.out]; show (if es = [] then none else some (es, r)) = _; rw [if_neg hes])
          have hpos : 0 < es.length := List.length_pos_iff.2 hes
          clear hes
          go_wp2
          change bodyPost Tryz.prog Tryz.f33 (ElementsAns l w') Exit.ret _ _
          refine bodyPost_ret (v := .tuple #[.slice la es.length lc, .string (bytes r), .bool true]) (by simp [results, Tryz.results33, go_sem]) rfl (elements_yes HYE.out ⟨la, lc, rfl, fun V hV => HE.out.elms hV, HE.out.b⟩)
end Go.Proofs.YtmmghppjhmdikaaGreatDoor
/- How much of a text parameters and elements take: their own text is at most twice as long. -/
namespace Go.Proofs.YtmmghppjhmdikaaGreatDoor
open Go.ChangeShapes Go.WideShapes Go.ChangeAt Go.RowKit

theorem takeV_sum : ∀ (n : Nat) (l : List UInt8) (p : List UInt8 × List UInt8), l.length ≤ n → takeV l = some p → p.1.length + p.2.length + 1 ≤ l.length
  | _, [], p, _, h => by cases h
  | _, [c], p, _, h => by
    unfold takeV at h
    split at h
    · cases h; simp
    · cases h
  | 0, c :: d :: r, p, hn, _ => by simp at hn
  | n + 1, c :: d :: r, p, hn, h => by
    rw [takeV] at h
    split at h
    · cases h; simp
    · split at h
      · cases h
      · split at h
        · cases hq : takeV r with
          | none => rw [hq] at h; cases h
          | some q =>
            rw [hq] at h
            cases h
            have := takeV_sum n r q (by simp at hn; omega) hq
            simp; omega
        · cases hq : takeV (d :: r) with
          | none => rw [hq] at h; cases h
          | some q =>
            rw [hq] at h
            cases h
            have := takeV_sum n (d :: r) q (by simp at hn ⊢; omega) hq
            simp at this ⊢; omega
theorem trim_len {l s : List UInt8} (h : Lib.hasPrefix l s = true) : (Lib.trimPrefix l s).length + s.length = l.length := by
  unfold Lib.trimPrefix
  rw [h]
  simp only [if_true, List.length_drop]
  have := (List.isPrefixOf_iff_prefix.1 (show s.isPrefixOf l = true from h)).length_le
  omega
theorem prms_sum : ∀ (n : Nat) (l : List UInt8) (p : List Prm × List UInt8), prmsL n l = some p → (prmsT p.1).length + 2 * p.2.length ≤ 2 * l.length
  | 0, l, p, h => by cases h; simp [prmsT]
  | n + 1, l, p, h => by
    unfold prmsL at h
    split at h
    · rename_i h1
      split at h
      · rename_i h2
        split at h
        · rename_i q hq
          cases hz : prmsL n q.2 with
          | none => rw [hz] at h; cases h
          | some z =>
            rw [hz] at h
            cases h
            have k1 := prms_sum n q.2 z hz
            have k2 := takeV_sum _ _ q (Nat.le_refl _) hq
            have k3 := trim_len h2
            have k4 := trim_len h1
            have k5 := (valueL_length q.1).2
            have k6 : nameAt (Lib.trimPrefix l [32]) ≤ (Lib.trimPrefix l [32]).length := List.findIdx_le_length
            rw [List.length_drop] at k3
            simp only [List.length_cons, List.length_nil] at k3 k4
            have e : prmsT ((bytes ((Lib.trimPrefix l [32]).take (nameAt (Lib.trimPrefix l [32]))), bytes q.1) :: z.1) = prmT (bytes ((Lib.trimPrefix l [32]).take (nameAt (Lib.trimPrefix l [32]))), bytes q.1) ++ prmsT z.1 := rfl
            simp only
            rw [e, List.length_append]
            have e2 : (prmT (bytes ((Lib.trimPrefix l [32]).take (nameAt (Lib.trimPrefix l [32]))), bytes q.1)).length = nameAt (Lib.trimPrefix l [32]) + (valueL q.1).length + 4 := by
              unfold prmT
              simp only [bytes_list, List.length_cons, List.length_append, List.length_take, List.length_nil]
              omega
            omega
        · cases h
      · cases h
    · cases h; simp [prmsT]
theorem element_sum {l : List UInt8} {p : Elm × List UInt8} (h : elementL l = some p) : (elmT p.1).length + 2 * p.2.length ≤ 2 * l.length := by
  unfold elementL at h
  split at h
  · rename_i q hq
    split at h
    · rename_i h1
      cases h
      have k1 := prms_sum _ _ _ hq
      have k2 := trim_len h1
      have k3 := trim_le l [91]
      have k6 : nameAt (Lib.trimPrefix l [91]) ≤ (Lib.trimPrefix l [91]).length := List.findIdx_le_length
      rw [List.length_drop] at k1
      simp only [List.length_cons, List.length_nil] at k2
      simp only
      have e2 : (elmT (bytes ((Lib.trimPrefix l [91]).take (nameAt (Lib.trimPrefix l [91]))), q.1)).length = nameAt (Lib.trimPrefix l [91]) + (prmsT q.1).length + 2 := by
        unfold elmT
        simp only [bytes_list, List.length_cons, List.length_append, List.length_take, List.length_nil]
        omega
      omega
    · cases h
  · cases h
theorem elms_sum : ∀ (n : Nat) (l : List UInt8) (p : List Elm × List UInt8), elmsL n l = some p → (elmsT p.1).length + 2 * p.2.length ≤ 2 * l.length
  | 0, l, p, h => by cases h; simp [elmsT]
  | n + 1, l, p, h => by
    unfold elmsL at h
    split at h
    · split at h
      · rename_i q hq
        cases hz : elmsL n q.2 with
        | none => rw [hz] at h; cases h
        | some z =>
          rw [hz] at h
          cases h
          have k1 := elms_sum n q.2 z hz
          have k2 := element_sum hq
          have e : elmsT (q.1 :: z.1) = elmT q.1 ++ elmsT z.1 := rfl
          simp only
          rw [e, List.length_append]
          omega
      · cases h
    · cases h; simp [elmsT]
theorem elements_sum {l : List UInt8} {p : List Elm × List UInt8} (h : elementsL l = some p) : (elmsT p.1).length + 2 * p.2.length ≤ 2 * l.length := by
  unfold elementsL at h
  split at h
  · cases h
    have := trim_le l [45]
    simp [elmsT]
    omega
  · split at h
    · rename_i q hq
      split at h
      · cases h
      · cases h; exact elms_sum _ _ _ hq
    · cases h
theorem mem_flat {α : Type} (f : α → List UInt8) : ∀ (l : List α) (x : α), x ∈ l → (f x).length ≤ (l.flatMap f).length
  | [], x, h => by cases h
  | y :: l, x, h => by
    rw [List.flatMap_cons, List.length_append]
    rcases List.mem_cons.1 h with rfl | h
    · omega
    · have := mem_flat f l x h; omega
theorem len_flat {α : Type} (f : α → List UInt8) (hf : ∀ x, 1 ≤ (f x).length) : ∀ l : List α, l.length ≤ (l.flatMap f).length
  | [] => Nat.le_refl _
  | y :: l => by
    rw [List.flatMap_cons, List.length_append, List.length_cons]
    have := len_flat f hf l
    have := hf y
    omega
/-- Elements whose text is short fit. -/
theorem fit_of_len {es : List Elm} (h : (elmsT es).length ≤ 1073741824) : ElmsFit es := by
  have h1 : es.length ≤ (elmsT es).length := len_flat elmT (fun e => by unfold elmT; simp) es
  refine ⟨by omega, fun e he => ?_⟩
  have h2 : (elmT e).length ≤ (elmsT es).length := mem_flat elmT es e he
  have e1 : (elmT e).length = e.1.size + (prmsT e.2).length + 2 := by
    unfold elmT
    simp only [List.length_cons, List.length_append, List.length_nil, list_size]
    omega
  have h3 : e.2.length ≤ (prmsT e.2).length := len_flat prmT (fun p => by unfold prmT; simp) e.2
  refine ⟨by omega, by omega, fun p hp => ?_⟩
  have h4 : (prmT p).length ≤ (prmsT e.2).length := mem_flat prmT e.2 p hp
  have h5 := (valueL_length p.2.data.toList).1
  have e2 : (prmT p).length = p.1.size + (valueL p.2.data.toList).length + 4 := by
    unfold prmT
    simp only [List.length_cons, List.length_append, List.length_nil, list_size]
    omega
  rw [list_size] at h5
  exact ⟨by omega, by omega⟩
theorem behind_len (l : List UInt8) : (behindL l).1.length ≤ l.length := by
  unfold behindL
  split
  · simp
  · have h1 := trim_le (Lib.trimPrefix l [32]) [239, 187, 191]
    have h2 := trim_le l [32]
    simp only
    omega
end Go.Proofs.YtmmghppjhmdikaaGreatDoor
