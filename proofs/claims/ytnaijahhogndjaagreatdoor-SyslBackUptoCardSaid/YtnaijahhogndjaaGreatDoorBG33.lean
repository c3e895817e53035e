/- What sysl.element answers of every text that begins with [. Condition: the size. -/
import Derived.Test.YtnaijahhogndjaaGreatDoorBG31
import Derived.Test.YtnaijahhogndjaaGreatDoorBG32
import Derived.Test.YtnaijahhogndjaaGreatDoorBG24
import Derived.RegionTactic
import Derived.BigRegion
import Derived.Laws.EntriesVeiled
namespace Go.Proofs.YtnaijahhogndjaaGreatDoor
open Go.ChangeShapes Go.WideShapes Go.ChangeAt Go.RowKit

theorem trim_le (l s : List UInt8) : (Lib.trimPrefix l s).length ≤ l.length := by
  unfold Lib.trimPrefix
  split
  · simp
  · exact Nat.le_refl _
theorem takeV_le : ∀ (n : Nat) (l : List UInt8) (p : List UInt8 × List UInt8), l.length ≤ n → takeV l = some p → p.2.length ≤ l.length ∧ p.1.length ≤ l.length
  | _, [], p, _, h => by cases h
  | _, [c], p, _, h => by
    unfold takeV at h
    split at h
    · cases h; simp
    · cases h
  | 0, c :: d :: r, p, hn, _ => by simp at hn
  | n + 1, c :: d :: r, p, hn, h => by
    rw [takeV] at h
    split at h
    · cases h; simp
    · split at h
      · cases h
      · split at h
        · cases hq : takeV r with
          | none => rw [hq] at h; cases h
          | some q =>
            rw [hq] at h
            cases h
            have := takeV_le n r q (by simp at hn; omega) hq
            simp; omega
        · cases hq : takeV (d :: r) with
          | none => rw [hq] at h; cases h
          | some q =>
            rw [hq] at h
            cases h
            have := takeV_le n (d :: r) q (by simp at hn ⊢; omega) hq
            simp at this ⊢; omega
/-- What element answers of a text that begins with [. -/
def ElementAns (l : List UInt8) (w : World) (x : Ending) (w' : World) : Prop :=
  match elementL l with
  | some p => ElemAns w p.1 p.2 x w'
  | none => ∃ id la n lc r, x = .returned (.tuple #[.agg #[.string id, .slice la n lc], .string r, .bool false]) ∧ Below w.heap.size w w'
theorem element_yes {l : List UInt8} {e : Elm} {t : List UInt8} {w : World} {x : Ending} {w' : World} (h : elementL l = some (e, t)) (ha : ElemAns w e t x w') : ElementAns l w x w' := by
  unfold ElementAns; rw [h]; exact ha
theorem element_no {l : List UInt8} {w : World} {x : Ending} {w' : World} (h : elementL l = none) (ha : ∃ id la n lc r, x = .returned (.tuple #[.agg #[.string id, .slice la n lc], .string r, .bool false]) ∧ Below w.heap.size w w') : ElementAns l w x w' := by
  unfold ElementAns; rw [h]; exact ha
theorem prms_stop {n : Nat} {r : List UInt8} (h : Lib.hasPrefix r [32] = false) : prmsL n r = some ([], r) := by
  cases n with
  | zero => rfl
  | succ n => unfold prmsL; rw [if_neg (by rw [h]; decide)]
theorem prms_no1 {n : Nat} {r r' q : List UInt8} (h : Lib.hasPrefix r [32] = true) (h1 : Lib.trimPrefix r [32] = r') (h2 : r'.drop (nameAt r') = q) (h3 : Lib.hasPrefix q [61, 34] = false) : prmsL (n + 1) r = none := by
  unfold prmsL; rw [if_pos h, h1, h2, if_neg (by rw [h3]; decide)]
theorem prms_no2 {n : Nat} {r r' q q2 : List UInt8} (h : Lib.hasPrefix r [32] = true) (h1 : Lib.trimPrefix r [32] = r') (h2 : r'.drop (nameAt r') = q) (h3 : Lib.hasPrefix q [61, 34] = true) (h4 : Lib.trimPrefix q [61, 34] = q2) (h5 : takeV q2 = none) : prmsL (n + 1) r = none := by
  unfold prmsL; rw [if_pos h, h1, h2, if_pos h3, h4, h5]
theorem prms_yes {n : Nat} {r r' q q2 v t : List UInt8} (h : Lib.hasPrefix r [32] = true) (h1 : Lib.trimPrefix r [32] = r') (h2 : r'.drop (nameAt r') = q) (h3 : Lib.hasPrefix q [61, 34] = true) (h4 : Lib.trimPrefix q [61, 34] = q2) (h5 : takeV q2 = some (v, t)) :
    prmsL (n + 1) r = (prmsL n t).map fun z => ((bytes (r'.take (nameAt r')), bytes v) :: z.1, z.2) := by
  conv => lhs; unfold prmsL
  rw [if_pos h, h1, h2, if_pos h3, h4, h5]
theorem elem_is {r0 r1 : List UInt8} {ID : ByteArray} (h1 : r0.drop (nameAt r0) = r1) (h2 : bytes (r0.take (nameAt r0)) = ID) :
    elementL (91 :: r0) = match prmsL 64 r1 with
      | some p => if Lib.hasPrefix p.2 [93] = true then some ((ID, p.1), Lib.trimPrefix p.2 [93]) else none
      | none => none := by
  unfold elementL
  rw [(pre_hit 91 r0).2, h1, h2]
  rcases prmsL 64 r1 with _ | p <;> rfl
set_option maxHeartbeats 16000000 in
set_option maxRecDepth 100000 in
theorem element_any (r0 : List UInt8) (w : World) (hl : r0.length ≤ 1073741823) :
    Calls Tryz.prog 87 #[.string (bytes (91 :: r0))] w (ElementAns (91 :: r0) w) := by
  obtain ⟨i0, hi, hz0, hz1, hz2⟩ := info54_of
  have HI := Lib.hid hi
  have HI0 := Lib.hid hz0
  have HI1 := Lib.hid hz1
  have HI2 := Lib.hid hz2
  clear hi hz0 hz1 hz2
  obtain ⟨r1, hr1⟩ : ∃ r, r0.drop (nameAt r0) = r := ⟨_, rfl⟩
  obtain ⟨ID, hID⟩ : ∃ r, bytes (r0.take (nameAt r0)) = r := ⟨_, rfl⟩
  have hl1 : r1.length ≤ 1073741823 := by rw [← hr1, List.length_drop]; omega
  have HEL := Lib.hid (elem_is hr1 hID)
  have S1 := Lib.hid (fun b W hc hf => sign_is ⟨#[91]⟩ (91 :: r0) r0 true b W (pre_hit 91 r0) hc hf)
  have N1 := Lib.hid (fun b W hb hc hf => nameE_any r0 b W (by omega) hb hc hf)
  rw [hID, hr1] at N1
  clear hr1 hID
  go_enter Tryz.func87, Tryz.ntmps87
  go_wp2_with fail
  obtain ⟨W0, hW0⟩ : ∃ W0, ((w.alloc (.cells #[.string ⟨#[]⟩, .slice none 0 0] 52)).alloc (.cells #[.string (bytes (91 :: r0))] 9)) = W0 := ⟨_, rfl⟩
  have h0 : EAt w W0 (.string ⟨#[]⟩) (.slice none 0 0) (91 :: r0) [] := by
    rw [← hW0]
    constructor
    · simp [go_sem]
    · simp [go_sem]
    · simp [go_sem]
    · simp
    · intro o; simp [go_sem]
    · intro o; simp [go_sem]
    · exact ((Below.refl _ _).alloc (Nat.le_refl _) _).alloc (by simp) _
    · exact World.ownsRow_nil _ _ _ _
  rw [hW0]
  clear hW0
  refine (S1.out _ _ h0.kr (h0.f1 0)).mono ?_
  rintro x W1 ⟨rfl, rfl⟩
  have h1 := h0.setr r0
  clear h0
  generalize W0.setCell ⟨w.heap.size + 1, 0, none⟩ (.string (bytes r0)) = W1 at h1 ⊢
  go_wp2_with fail
  refine (N1.out _ _ h1.z h1.kr (h1.f1 0)).mono ?_
  rintro x W2 ⟨rfl, V2, hB, rfl⟩
  have h2 := (h1.below hB).setr r1
  clear h1 hB
  generalize V2.setCell ⟨w.heap.size + 1, 0, none⟩ (.string (bytes r1)) = W2 at h2 ⊢
  have k0 := h2.k0
  have f0 := h2.f0
  have h3 := h2.set0 (.string ID)
  clear h2
  go_wp2
  clear k0 f0
  generalize W2.setCell ⟨w.heap.size, 0, none⟩ (.string ID) = W3 at h3 ⊢
  clear S1 N1
  go_loopg [4] 65 (fun g v wr => (v = .bool true ∧ ∃ (k : Nat) (lv : Value) (r : List UInt8) (ps : List Prm), k ≤ 64 ∧ k + g = 65 ∧ ps.length = k ∧ r.length ≤ 1073741823 ∧ EAt w wr (.string ID) lv r ps ∧ Hid (prmsL 64 r1 = (prmsL (64 - k) r).map fun z => (ps ++ z.1, z.2))) ∨ (v = .bool false ∧ ∃ lv r ps, EAt w wr (.string ID) lv r ps ∧ Hid (prmsL 64 r1 = none)))
  case atStart => exact .inl ⟨rfl, 0, _, _, [], by omega, by omega, rfl, hl1, h3, Lib.hid (by simp)⟩
  case round =>
    rcases hrel with hrel | hrel
    · obtain ⟨rfl, k, lv, r, ps, hk, hg, hpl, hrl, hE, HPR0⟩ := hrel
      obtain ⟨la, lc, hlv, hin⟩ := hE.prms
      subst hlv
      subst hpl
      have k1 := hE.k1
      by_cases hk64 : ps.length < 64
      · obtain ⟨n, hn⟩ : ∃ n, 64 - ps.length = n + 1 := ⟨63 - ps.length, by omega⟩
        cases hsp : Lib.hasPrefix r [32] with
        | false =>
          have HPR := Lib.hid (show prmsL 64 r1 = some (ps, r) by rw [HPR0.out, prms_stop hsp]; simp)
          have htr : Lib.trimPrefix r [32] = r := by unfold Lib.trimPrefix; rw [hsp]; rfl
          have SM := Lib.hid (fun b W hc hf => sign_is ⟨#[32]⟩ r r false b W ⟨hsp, htr⟩ hc hf)
          clear hsp htr HPR0 hin
          go_wp2_with fail
          refine (SM.out _ _ hE.kr (hE.f1 0)).mono ?_
          rintro x W4 ⟨rfl, rfl⟩
          have h4 := hE.setr r
          clear hE k1
          generalize wr.setCell ⟨w.heap.size + 1, 0, none⟩ (.string (bytes r)) = W4 at h4 ⊢
          have hELp : elementL (91 :: r0) = if Lib.hasPrefix r [93] = true then some ((ID, ps), Lib.trimPrefix r [93]) else none := by
            rw [HEL.out, HPR.out]
          have HELp := Lib.hid hELp
          obtain ⟨t, ht⟩ : ∃ t, Lib.trimPrefix r [93] = t := ⟨_, rfl⟩
          rw [ht] at HELp
          clear hELp
          cases hp : Lib.hasPrefix r [93] with
          | true =>
            have SQ := Lib.hid (fun b W hc hf => sign_is ⟨#[93]⟩ r t true b W ⟨hp, ht⟩ hc hf)
            rw [hp] at HELp
            clear hp ht
            go_wp2_with fail
            refine (SQ.out _ _ h4.kr (h4.f1 0)).mono ?_
            rintro x WF ⟨rfl, rfl⟩
            have hF := h4.setr t
            clear h4
            generalize W4.setCell ⟨w.heap.size + 1, 0, none⟩ (.string (bytes t)) = WF at hF ⊢
            have k0 : WF.drew.cell? ⟨w.heap.size, 0, none⟩ = some (.string ID) := hF.k0
            have k1 : WF.drew.cell? ⟨w.heap.size, 1, none⟩ = some (.slice la ps.length lc) := hF.k1
            have kr : WF.drew.cell? ⟨w.heap.size + 1, 0, none⟩ = some (.string (bytes t)) := hF.kr
            have f0 : ∀ o, WF.drew.frozen? ⟨w.heap.size, o, none⟩ = false := hF.f0
            have f1 : ∀ o, WF.drew.frozen? ⟨w.heap.size + 1, o, none⟩ = false := hF.f1
            have k0' := hF.k0
            have k1' := hF.k1
            have kr' := hF.kr
            have f0' := hF.f0
            have f1' := hF.f1
            go_wp2
            go_region
            go_wp2
            change bodyPost Tryz.prog Tryz.f87 (ElementAns (91 :: r0) w) Exit.ret _ _
            have hfin := ((((hF.set0 (.string ID)).set1).setr t).below ((Below.refl _ _).drew))
            refine bodyPost_ret (v := .tuple #[.agg #[.string ID, .slice la ps.length lc], .string (bytes t), .bool true]) (by simp [results, Tryz.results87, go_sem, k0', k1', kr']) rfl (element_yes (e := (ID, ps)) (t := t) (by rw [HELp.out]; simp) ⟨la, lc, rfl, hfin.b, hfin.own⟩)
          | false =>
            have SQ := Lib.hid (fun b W hc hf => sign_is ⟨#[93]⟩ r t false b W ⟨hp, ht⟩ hc hf)
            rw [hp] at HELp
            clear hp ht
            go_wp2_with fail
            refine (SQ.out _ _ h4.kr (h4.f1 0)).mono ?_
            rintro x WF ⟨rfl, rfl⟩
            have hF := h4.setr t
            clear h4
            generalize W4.setCell ⟨w.heap.size + 1, 0, none⟩ (.string (bytes t)) = WF at hF ⊢
            have k0 : WF.drew.cell? ⟨w.heap.size, 0, none⟩ = some (.string ID) := hF.k0
            have k1 : WF.drew.cell? ⟨w.heap.size, 1, none⟩ = some (.slice la ps.length lc) := hF.k1
            have kr : WF.drew.cell? ⟨w.heap.size + 1, 0, none⟩ = some (.string (bytes t)) := hF.kr
            have f0 : ∀ o, WF.drew.frozen? ⟨w.heap.size, o, none⟩ = false := hF.f0
            have f1 : ∀ o, WF.drew.frozen? ⟨w.heap.size + 1, o, none⟩ = false := hF.f1
            have k0' := hF.k0
            have k1' := hF.k1
            have kr' := hF.kr
            have f0' := hF.f0
            have f1' := hF.f1
            go_wp2
            go_region
            go_wp2
            change bodyPost Tryz.prog Tryz.f87 (ElementAns (91 :: r0) w) Exit.ret _ _
            have hfin := ((((hF.set0 (.string ID)).set1).setr t).below ((Below.refl _ _).drew))
            refine bodyPost_ret (v := .tuple #[.agg #[.string ID, .slice la ps.length lc], .string (bytes t), .bool false]) (by simp [results, Tryz.results87, go_sem, k0', k1', kr']) rfl (element_no (by rw [HELp.out]; simp) ⟨_, _, _, _, _, rfl, hfin.b⟩)
        | true =>
          obtain ⟨r', hr'⟩ : ∃ r', Lib.trimPrefix r [32] = r' := ⟨_, rfl⟩
          have hl' : r'.length ≤ 1073741823 := by rw [← hr']; exact Nat.le_trans (trim_le _ _) hrl
          obtain ⟨q, hq⟩ : ∃ q, r'.drop (nameAt r') = q := ⟨_, rfl⟩
          have hql : q.length ≤ 1073741823 := by rw [← hq, List.length_drop]; omega
          obtain ⟨NM, hNM⟩ : ∃ N, bytes (r'.take (nameAt r')) = N := ⟨_, rfl⟩
          have SB := Lib.hid (fun b W hc hf => sign_is ⟨#[32]⟩ r r' true b W ⟨hsp, hr'⟩ hc hf)
          have NMC := Lib.hid (fun b W hb hc hf => nameE_any r' b W (by omega) hb hc hf)
          rw [hNM, hq] at NMC
          have HSP := Lib.hid hsp
          have HR' := Lib.hid hr'
          have HQ := Lib.hid hq
          have HNM := Lib.hid hNM
          clear hsp hr' hq hNM hin
          go_wp2_with fail
          refine (SB.out _ _ hE.kr (hE.f1 0)).mono ?_
          rintro x W4 ⟨rfl, rfl⟩
          have h4 := hE.setr r'
          clear hE k1
          generalize wr.setCell ⟨w.heap.size + 1, 0, none⟩ (.string (bytes r')) = W4 at h4 ⊢
          go_wp2_with fail
          refine (NMC.out _ _ h4.z h4.kr (h4.f1 0)).mono ?_
          rintro x W5 ⟨rfl, V5, hB5, rfl⟩
          have h5 := (h4.below hB5).setr q
          clear h4 hB5 SB NMC
          generalize V5.setCell ⟨w.heap.size + 1, 0, none⟩ (.string (bytes q)) = W5 at h5 ⊢
          have h5' := h5.below (W' := W5.alloc (.cells #[.string NM, .string ⟨#[]⟩] 54)) ((Below.refl _ _).alloc (Nat.le_refl _) _)
          have hz5 := h5.z
          have hown5 : ∀ g, (Value.slice la ps.length lc).ownBlock = some g → g < W5.heap.size := fun g hg => (h5.own.lt g hg).2
          cases hqp : Lib.hasPrefix q [61, 34] with
          | false =>
            have htq : Lib.trimPrefix q [61, 34] = q := by unfold Lib.trimPrefix; rw [hqp]; rfl
            have S2 := Lib.hid (fun b W hc hf => sign_is ⟨#[61, 34]⟩ q q false b W ⟨hqp, htq⟩ hc hf)
            have HNO := Lib.hid (show prmsL 64 r1 = none by rw [HPR0.out, hn, prms_no1 HSP.out HR'.out HQ.out hqp]; rfl)
            clear hqp htq HPR0
            go_wp2_with fail
            refine (S2.out _ _ h5'.kr (h5'.f1 0)).mono ?_
            rintro x W6 ⟨rfl, rfl⟩
            have h6 := h5'.setr q
            have p0 : ((W5.alloc (.cells #[.string NM, .string ⟨#[]⟩] 54)).setCell ⟨w.heap.size + 1, 0, none⟩ (.string (bytes q))).cell? ⟨W5.heap.size, 0, none⟩ = some (.string NM) := by
              rw [World.cell?_of_block (Below.heap_setCell _ _ _ _ (by simp; omega))]; simp [go_sem]
            have p1 : ((W5.alloc (.cells #[.string NM, .string ⟨#[]⟩] 54)).setCell ⟨w.heap.size + 1, 0, none⟩ (.string (bytes q))).cell? ⟨W5.heap.size, 1, none⟩ = some (.string ⟨#[]⟩) := by
              rw [World.cell?_of_block (Below.heap_setCell _ _ _ _ (by simp; omega))]; simp [go_sem]
            have pf : ∀ o, ((W5.alloc (.cells #[.string NM, .string ⟨#[]⟩] 54)).setCell ⟨w.heap.size + 1, 0, none⟩ (.string (bytes q))).frozen? ⟨W5.heap.size, o, none⟩ = false := by
              intro o; rw [World.frozen?_of_block (Below.heap_setCell _ _ _ _ (by simp; omega))]; simp [go_sem]
            have pz : W5.heap.size < ((W5.alloc (.cells #[.string NM, .string ⟨#[]⟩] 54)).setCell ⟨w.heap.size + 1, 0, none⟩ (.string (bytes q))).heap.size := by simp
            clear h5'
            generalize ((W5.alloc (.cells #[.string NM, .string ⟨#[]⟩] 54)).setCell ⟨w.heap.size + 1, 0, none⟩ (.string (bytes q))) = W6 at h6 p0 p1 pf pz ⊢
            obtain ⟨P, hP⟩ : ∃ P, W5.heap.size = P := ⟨_, rfl⟩
            rw [hP] at p0 p1 pf pz hown5 hz5 ⊢
            clear h5 hP
            have h7 := h6
            have q0 := p0
            have q1 := p1
            have qf := pf
            have k1 := h7.k1
            have f0 := h7.f0
            have f1 := h7.f1
            have h8 := h7
            have h9 := h8.below (W' := W6.alloc (.cells #[.string NM, .string ⟨#[]⟩] 54)) ((Below.refl _ _).alloc (Nat.le_refl _) _)
            clear h6
            have own9 := h9.own
            have H9 := Lib.hid h9
            have O9 := Lib.hid own9
            have hz9 := h8.z
            have hN := cells_new W6 #[.string NM, .string ⟨#[]⟩] 54
            have HN := Lib.hid hN
            clear hN
            clear h9 h8 h7 own9
            go_wp2_with (at_builtin; refine wpList_append_own _ rfl _ _ 50 rfl (w.heap.size + 2) 54 i0 (.agg #[.string ⟨#[]⟩, .string ⟨#[]⟩]) 2 32 Tryz.underlying50 HI.out HI0.out HI1.out HI2.out rfl (by decide) _ ps.length _ rfl O9.out ⟨W6.heap.size, 0, none⟩ 1 1 [.string NM, .string ⟨#[]⟩] rfl rfl HN.out (by simp [Value.oneCell']) (by unfold maxLen; omega) (by omega) (by simp at hz9 ⊢; omega) ?_; intro v1 w1 hown1 hgrow1 _; obtain ⟨a1, cap1, rfl⟩ := slice_of hown1; have ga := (H9.out.grown hgrow1).1; have gb := (H9.out.grown hgrow1).2)
            have hpush := H9.out.push hgrow1 (p := (NM, ⟨#[]⟩)) hown1
            go_roundg (gk - 1)
            case measure => omega
            case rel => exact .inr ⟨rfl, _, _, _, hpush, HNO⟩
          | true =>
            obtain ⟨q2, hq2⟩ : ∃ q2, Lib.trimPrefix q [61, 34] = q2 := ⟨_, rfl⟩
            have hq2l : q2.length ≤ 1073741823 := by rw [← hq2]; exact Nat.le_trans (trim_le _ _) hql
            have S2 := Lib.hid (fun b W hc hf => sign_is ⟨#[61, 34]⟩ q q2 true b W ⟨hqp, hq2⟩ hc hf)
            have TVA := fun W => takes_any (bytes q2) W (by rw [bytes_size]; omega)
            rw [bytes_list] at TVA
            go_wp2_with fail
            refine (S2.out _ _ h5'.kr (h5'.f1 0)).mono ?_
            rintro x W6 ⟨rfl, rfl⟩
            have h6 := h5'.setr q2
            have p0 : ((W5.alloc (.cells #[.string NM, .string ⟨#[]⟩] 54)).setCell ⟨w.heap.size + 1, 0, none⟩ (.string (bytes q2))).cell? ⟨W5.heap.size, 0, none⟩ = some (.string NM) := by
              rw [World.cell?_of_block (Below.heap_setCell _ _ _ _ (by simp; omega))]; simp [go_sem]
            have p1 : ((W5.alloc (.cells #[.string NM, .string ⟨#[]⟩] 54)).setCell ⟨w.heap.size + 1, 0, none⟩ (.string (bytes q2))).cell? ⟨W5.heap.size, 1, none⟩ = some (.string ⟨#[]⟩) := by
              rw [World.cell?_of_block (Below.heap_setCell _ _ _ _ (by simp; omega))]; simp [go_sem]
            have pf : ∀ o, ((W5.alloc (.cells #[.string NM, .string ⟨#[]⟩] 54)).setCell ⟨w.heap.size + 1, 0, none⟩ (.string (bytes q2))).frozen? ⟨W5.heap.size, o, none⟩ = false := by
              intro o; rw [World.frozen?_of_block (Below.heap_setCell _ _ _ _ (by simp; omega))]; simp [go_sem]
            have pz : W5.heap.size < ((W5.alloc (.cells #[.string NM, .string ⟨#[]⟩] 54)).setCell ⟨w.heap.size + 1, 0, none⟩ (.string (bytes q2))).heap.size := by simp
            clear h5'
            generalize ((W5.alloc (.cells #[.string NM, .string ⟨#[]⟩] 54)).setCell ⟨w.heap.size + 1, 0, none⟩ (.string (bytes q2))) = W6 at h6 p0 p1 pf pz ⊢
            obtain ⟨P, hP⟩ : ∃ P, W5.heap.size = P := ⟨_, rfl⟩
            rw [hP] at p0 p1 pf pz hown5 hz5 ⊢
            clear h5 hP
            have kr := h6.kr
            cases hTV : takeV q2 with
            | none =>
              have HNO := Lib.hid (show prmsL 64 r1 = none by rw [HPR0.out, hn, prms_no2 HSP.out HR'.out HQ.out hqp hq2 hTV]; rfl)
              rw [hTV] at TVA
              have TV : Hid (∀ W, Calls Tryz.prog 120 #[.string (bytes q2)] W fun e w' => e = .returned (.tuple #[.string ⟨#[]⟩, .string ⟨#[]⟩, .bool false]) ∧ Below W.heap.size W w') := Lib.hid TVA
              clear hqp hq2 TVA HPR0 hTV
              go_wp2_with fail
              refine (TV.out _).mono ?_
              rintro x W7 ⟨rfl, hB7⟩
              have h7 := h6.below hB7
              have q0 := ((bcell hB7).1 P 0 pz).trans p0
              have q1 := ((bcell hB7).1 P 1 pz).trans p1
              have qf := fun o => ((bcell hB7).2 P o pz).trans (pf o)
              clear h6 hB7 p0 p1 pf pz kr
              have n1 : ¬ P = w.heap.size := by omega
              have n2 : ¬ w.heap.size = P := by omega
              have n3 : ¬ P = w.heap.size + 1 := by omega
              have n4 : ¬ w.heap.size + 1 = P := by omega
              have h8 := (h7.other (b := P) (o := 1) (by omega) hown5 (.string ⟨#[]⟩)).setr []
              have k1 := h7.k1
              have kr := h7.kr
              have f0 := h7.f0
              have f1 := h7.f1
              have h9 := h8.below (W' := ((W7.setCell ⟨P, 1, none⟩ (.string ⟨#[]⟩)).setCell ⟨w.heap.size + 1, 0, none⟩ (.string ⟨#[]⟩)).alloc (.cells #[.string NM, .string ⟨#[]⟩] 54)) ((Below.refl _ _).alloc (Nat.le_refl _) _)
              have own9 := h9.own
              have H9 := Lib.hid h9
              have O9 := Lib.hid own9
              have hz9 := h8.z
              have hN := cells_new ((W7.setCell ⟨P, 1, none⟩ (.string ⟨#[]⟩)).setCell ⟨w.heap.size + 1, 0, none⟩ (.string ⟨#[]⟩)) #[.string NM, .string ⟨#[]⟩] 54
              rw [show ((W7.setCell ⟨P, 1, none⟩ (.string ⟨#[]⟩)).setCell ⟨w.heap.size + 1, 0, none⟩ (.string ⟨#[]⟩)).heap.size = W7.heap.size by simp] at hN
              have HN := Lib.hid hN
              clear hN
              clear h9 h8 h7 own9
              go_wp2_with (at_builtin; refine wpList_append_own _ rfl _ _ 50 rfl (w.heap.size + 2) 54 i0 (.agg #[.string ⟨#[]⟩, .string ⟨#[]⟩]) 2 32 Tryz.underlying50 HI.out HI0.out HI1.out HI2.out rfl (by decide) _ ps.length _ rfl O9.out ⟨W7.heap.size, 0, none⟩ 1 1 [.string NM, .string ⟨#[]⟩] rfl rfl HN.out (by simp [Value.oneCell']) (by unfold maxLen; omega) (by omega) (by simp at hz9 ⊢; omega) ?_; intro v1 w1 hown1 hgrow1 _; obtain ⟨a1, cap1, rfl⟩ := slice_of hown1; have ga := (H9.out.grown hgrow1).1; have gb := (H9.out.grown hgrow1).2)
              have hpush := H9.out.push hgrow1 (p := (NM, ⟨#[]⟩)) hown1
              go_roundg (gk - 1)
              case measure => omega
              case rel => exact .inr ⟨rfl, _, _, _, hpush, HNO⟩
            | some vt =>
              obtain ⟨v, t⟩ := vt
              have hty := (takeV_le q2.length q2 (v, t) (Nat.le_refl _) hTV).1
              have htl : t.length ≤ 1073741823 := by simp only at hty; omega
              have HPS := Lib.hid (prms_yes (n := n) HSP.out HR'.out HQ.out hqp hq2 hTV)
              rw [HNM.out] at HPS
              rw [hTV] at TVA
              obtain ⟨VB, hVB⟩ : ∃ V, bytes v = V := ⟨_, rfl⟩
              rw [hVB] at HPS
              have TV : Hid (∀ W, Calls Tryz.prog 120 #[.string (bytes q2)] W fun e w' => e = .returned (.tuple #[.string VB, .string (bytes t), .bool true]) ∧ Below W.heap.size W w') := Lib.hid fun W => by
                have h := TVA W
                rw [ends3, hVB] at h
                exact h
              clear hqp hq2 TVA hTV hty hVB
              go_wp2_with fail
              refine (TV.out _).mono ?_
              rintro x W7 ⟨rfl, hB7⟩
              have h7 := h6.below hB7
              have q0 := ((bcell hB7).1 P 0 pz).trans p0
              have q1 := ((bcell hB7).1 P 1 pz).trans p1
              have qf := fun o => ((bcell hB7).2 P o pz).trans (pf o)
              clear h6 hB7 p0 p1 pf pz kr
              have n1 : ¬ P = w.heap.size := by omega
              have n2 : ¬ w.heap.size = P := by omega
              have n3 : ¬ P = w.heap.size + 1 := by omega
              have n4 : ¬ w.heap.size + 1 = P := by omega
              have h8 := (h7.other (b := P) (o := 1) (by omega) hown5 (.string VB)).setr t
              have k1 := h7.k1
              have kr := h7.kr
              have f0 := h7.f0
              have f1 := h7.f1
              have h9 := h8.below (W' := ((W7.setCell ⟨P, 1, none⟩ (.string VB)).setCell ⟨w.heap.size + 1, 0, none⟩ (.string (bytes t))).alloc (.cells #[.string NM, .string VB] 54)) ((Below.refl _ _).alloc (Nat.le_refl _) _)
              have own9 := h9.own
              have H9 := Lib.hid h9
              have O9 := Lib.hid own9
              have hz9 := h8.z
              have hN := cells_new ((W7.setCell ⟨P, 1, none⟩ (.string VB)).setCell ⟨w.heap.size + 1, 0, none⟩ (.string (bytes t))) #[.string NM, .string VB] 54
              rw [show ((W7.setCell ⟨P, 1, none⟩ (.string VB)).setCell ⟨w.heap.size + 1, 0, none⟩ (.string (bytes t))).heap.size = W7.heap.size by simp] at hN
              have HN := Lib.hid hN
              clear hN
              clear h9 h8 h7 own9
              go_wp2_with (at_builtin; refine wpList_append_own _ rfl _ _ 50 rfl (w.heap.size + 2) 54 i0 (.agg #[.string ⟨#[]⟩, .string ⟨#[]⟩]) 2 32 Tryz.underlying50 HI.out HI0.out HI1.out HI2.out rfl (by decide) _ ps.length _ rfl O9.out ⟨W7.heap.size, 0, none⟩ 1 1 [.string NM, .string VB] rfl rfl HN.out (by simp [Value.oneCell']) (by unfold maxLen; omega) (by omega) (by simp at hz9 ⊢; omega) ?_; intro v1 w1 hown1 hgrow1 _; obtain ⟨a1, cap1, rfl⟩ := slice_of hown1; have ga := (H9.out.grown hgrow1).1; have gb := (H9.out.grown hgrow1).2)
              have hpush := H9.out.push hgrow1 (p := (NM, VB)) hown1
              have hpr : prmsL 64 r1 = (prmsL (64 - (ps.length + 1)) t).map fun z => ((ps ++ [(NM, VB)]) ++ z.1, z.2) := by
                rw [HPR0.out, hn, HPS.out, show 64 - (ps.length + 1) = n by omega, Option.map_map]
                congr 1
                funext z
                simp
              have HPR1 := Lib.hid hpr
              clear hpr
              go_roundg (gk - 1)
              case measure => omega
              case rel => exact .inl ⟨rfl, ps.length + 1, _, _, _, by omega, by omega, by simp, htl, hpush, HPR1⟩
      · have HPR := Lib.hid (show prmsL 64 r1 = some (ps, r) by
          rw [HPR0.out, show 64 - ps.length = 0 by omega]
          show (some ([], r)).map _ = _
          simp)
        have h4 := hE
        clear hE HPR0 hin
        have hELp : elementL (91 :: r0) = if Lib.hasPrefix r [93] = true then some ((ID, ps), Lib.trimPrefix r [93]) else none := by
          rw [HEL.out, HPR.out]
        have HELp := Lib.hid hELp
        obtain ⟨t, ht⟩ : ∃ t, Lib.trimPrefix r [93] = t := ⟨_, rfl⟩
        rw [ht] at HELp
        clear hELp
        cases hp : Lib.hasPrefix r [93] with
        | true =>
          have SQ := Lib.hid (fun b W hc hf => sign_is ⟨#[93]⟩ r t true b W ⟨hp, ht⟩ hc hf)
          rw [hp] at HELp
          clear hp ht
          go_wp2_with fail
          refine (SQ.out _ _ h4.kr (h4.f1 0)).mono ?_
          rintro x WF ⟨rfl, rfl⟩
          have hF := h4.setr t
          clear h4
          generalize wr.setCell ⟨w.heap.size + 1, 0, none⟩ (.string (bytes t)) = WF at hF ⊢
          have k0 : WF.drew.cell? ⟨w.heap.size, 0, none⟩ = some (.string ID) := hF.k0
          have k1 : WF.drew.cell? ⟨w.heap.size, 1, none⟩ = some (.slice la ps.length lc) := hF.k1
          have kr : WF.drew.cell? ⟨w.heap.size + 1, 0, none⟩ = some (.string (bytes t)) := hF.kr
          have f0 : ∀ o, WF.drew.frozen? ⟨w.heap.size, o, none⟩ = false := hF.f0
          have f1 : ∀ o, WF.drew.frozen? ⟨w.heap.size + 1, o, none⟩ = false := hF.f1
          have k0' := hF.k0
          have k1' := hF.k1
          have kr' := hF.kr
          have f0' := hF.f0
          have f1' := hF.f1
          go_wp2
          go_region
          go_wp2
          change bodyPost Tryz.prog Tryz.f87 (ElementAns (91 :: r0) w) Exit.ret _ _
          have hfin := ((((hF.set0 (.string ID)).set1).setr t).below ((Below.refl _ _).drew))
          refine bodyPost_ret (v := .tuple #[.agg #[.string ID, .slice la ps.length lc], .string (bytes t), .bool true]) (by simp [results, Tryz.results87, go_sem, k0', k1', kr']) rfl (element_yes (e := (ID, ps)) (t := t) (by rw [HELp.out]; simp) ⟨la, lc, rfl, hfin.b, hfin.own⟩)
        | false =>
          have SQ := Lib.hid (fun b W hc hf => sign_is ⟨#[93]⟩ r t false b W ⟨hp, ht⟩ hc hf)
          rw [hp] at HELp
          clear hp ht
          go_wp2_with fail
          refine (SQ.out _ _ h4.kr (h4.f1 0)).mono ?_
          rintro x WF ⟨rfl, rfl⟩
          have hF := h4.setr t
          clear h4
          generalize wr.setCell ⟨w.heap.size + 1, 0, none⟩ (.string (bytes t)) = WF at hF ⊢
          have k0 : WF.drew.cell? ⟨w.heap.size, 0, none⟩ = some (.string ID) := hF.k0
          have k1 : WF.drew.cell? ⟨w.heap.size, 1, none⟩ = some (.slice la ps.length lc) := hF.k1
          have kr : WF.drew.cell? ⟨w.heap.size + 1, 0, none⟩ = some (.string (bytes t)) := hF.kr
          have f0 : ∀ o, WF.drew.frozen? ⟨w.heap.size, o, none⟩ = false := hF.f0
          have f1 : ∀ o, WF.drew.frozen? ⟨w.heap.size + 1, o, none⟩ = false := hF.f1
          have k0' := hF.k0
          have k1' := hF.k1
          have kr' := hF.kr
          have f0' := hF.f0
          have f1' := hF.f1
          go_wp2
          go_region
          go_wp2
          change bodyPost Tryz.prog Tryz.f87 (ElementAns (91 :: r0) w) Exit.ret _ _
          have hfin := ((((hF.set0 (.string ID)).set1).setr t).below ((Below.refl _ _).drew))
          refine bodyPost_ret (v := .tuple #[.agg #[.string ID, .slice la ps.length lc], .string (bytes t), .bool false]) (by simp [results, Tryz.results87, go_sem, k0', k1', kr']) rfl (element_no (by rw [HELp.out]; simp) ⟨_, _, _, _, _, rfl, hfin.b⟩)
    · obtain ⟨rfl, lv, r, ps, hE, HNO⟩ := hrel
      obtain ⟨la, lc, hlv, hin⟩ := hE.prms
      subst hlv
      have HNL := Lib.hid (show elementL (91 :: r0) = none by rw [HEL.out, HNO.out])
      have h4 := hE
      clear hE hin
      have k0 : wr.drew.cell? ⟨w.heap.size, 0, none⟩ = some (.string ID) := h4.k0
      have k1 : wr.drew.cell? ⟨w.heap.size, 1, none⟩ = some (.slice la ps.length lc) := h4.k1
      have kr : wr.drew.cell? ⟨w.heap.size + 1, 0, none⟩ = some (.string (bytes r)) := h4.kr
      have f0 : ∀ o, wr.drew.frozen? ⟨w.heap.size, o, none⟩ = false := h4.f0
      have f1 : ∀ o, wr.drew.frozen? ⟨w.heap.size + 1, o, none⟩ = false := h4.f1
      have k0' := h4.k0
      have k1' := h4.k1
      have kr' := h4.kr
      have f0' := h4.f0
      have f1' := h4.f1
      go_wp2
      go_region
      go_wp2
      change bodyPost Tryz.prog Tryz.f87 (ElementAns (91 :: r0) w) Exit.ret _ _
      have hfin := ((((h4.set0 (.string ID)).set1).setr r).below ((Below.refl _ _).drew))
      refine bodyPost_ret (v := .tuple #[.agg #[.string ID, .slice la ps.length lc], .string (bytes r), .bool false]) (by simp [results, Tryz.results87, go_sem, k0', k1', kr']) rfl (element_no HNL.out ⟨_, _, _, _, _, rfl, hfin.b⟩)
end Go.Proofs.YtnaijahhogndjaaGreatDoor
