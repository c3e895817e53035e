/- What sysl.dataText answers: the text of elements. -/
import Derived.Test.YtnaijahhogndjaaGreatDoorPG10
import Derived.Test.YtnaijahhogndjaaGreatDoorPG35
import Derived.Deep.RegionHeld
import Derived.OrdersHeld
namespace Go.Proofs.YtnaijahhogndjaaGreatDoor
open Go.ChangeShapes Go.WideShapes Go.ChangeAt Go.RowKit

def prmP (p : Prm) : List ByteArray := [⟨#[32]⟩, p.1, ⟨#[61, 34]⟩, bytes (valueL p.2.data.toList), ⟨#[34]⟩]
def prmsP (ps : List Prm) : List ByteArray := ps.flatMap prmP
def elmP (e : Elm) : List ByteArray := [⟨#[91]⟩, e.1] ++ prmsP e.2 ++ [⟨#[93]⟩]
def elmsP (es : List Elm) : List ByteArray := es.flatMap elmP
theorem prmsP_flat (ps : List Prm) : flatL (prmsP ps) = prmsT ps := by
  induction ps with
  | nil => rfl
  | cons p ps ih =>
    have e1 : prmsP (p :: ps) = prmP p ++ prmsP ps := rfl
    have e2 : prmsT (p :: ps) = prmT p ++ prmsT ps := rfl
    rw [e1, e2, flatL_append, ih]
    simp [flatL, prmP, prmT, bytes]
theorem elmsP_flat (es : List Elm) : flatL (elmsP es) = elmsT es := by
  induction es with
  | nil => rfl
  | cons e es ih =>
    have e1 : elmsP (e :: es) = elmP e ++ elmsP es := rfl
    have e2 : elmsT (e :: es) = elmT e ++ elmsT es := rfl
    rw [e1, e2, flatL_append, ih]
    congr 1
    unfold elmP elmT
    rw [flatL_append, flatL_append, prmsP_flat]
    simp [flatL]
theorem prmsP_length (ps : List Prm) : (prmsP ps).length = 5 * ps.length := by
  induction ps with
  | nil => rfl
  | cons p ps ih =>
    have e1 : prmsP (p :: ps) = prmP p ++ prmsP ps := rfl
    rw [e1, List.length_append, ih]; simp [prmP]; omega
theorem elmP_length (e : Elm) : (elmP e).length = 5 * e.2.length + 3 := by
  unfold elmP; rw [List.length_append, List.length_append, prmsP_length]; simp; omega
theorem elmsP_length (es : List Elm) (h : ∀ e ∈ es, e.2.length ≤ 64) : (elmsP es).length ≤ 323 * es.length := by
  induction es with
  | nil => exact Nat.le_refl _
  | cons e es ih =>
    have e1 : elmsP (e :: es) = elmP e ++ elmsP es := rfl
    rw [e1, List.length_append, elmP_length]
    have h1 := h e (by simp)
    have h2 := ih (fun x hx => h x (by simp [hx]))
    simp only [List.length_cons]
    omega
theorem elmsP_take {es : List Elm} {k : Nat} {e : Elm} (h : es[k]? = some e) : elmsP (es.take (k + 1)) = elmsP (es.take k) ++ elmP e := by
  obtain ⟨hk, hx⟩ := List.getElem?_eq_some_iff.1 h
  rw [List.take_succ_eq_append_getElem hk, hx]; simp [elmsP]
theorem prmsP_take {ps : List Prm} {k : Nat} {p : Prm} (h : ps[k]? = some p) : prmsP (ps.take (k + 1)) = prmsP (ps.take k) ++ prmP p := by
  obtain ⟨hk, hx⟩ := List.getElem?_eq_some_iff.1 h
  rw [List.take_succ_eq_append_getElem hk, hx]; simp [prmsP]
theorem prm_le {ps : List Prm} {p : Prm} (hp : p ∈ ps) : p.2.size ≤ (prmsT ps).length := by
  induction ps with
  | nil => cases hp
  | cons q ps ih =>
    have e2 : prmsT (q :: ps) = prmT q ++ prmsT ps := rfl
    rw [e2, List.length_append]
    rcases List.mem_cons.1 hp with rfl | h
    · have := (valueL_length p.2.data.toList).1
      rw [list_size] at this
      simp [prmT]
      omega
    · have := ih h
      omega
theorem val_le {es : List Elm} {e : Elm} {p : Prm} (he : e ∈ es) (hp : p ∈ e.2) : p.2.size ≤ (elmsT es).length := by
  induction es with
  | nil => cases he
  | cons x es ih =>
    have e2 : elmsT (x :: es) = elmT x ++ elmsT es := rfl
    rw [e2, List.length_append]
    rcases List.mem_cons.1 he with rfl | h
    · have := prm_le hp
      simp [elmT]
      omega
    · have := ih h
      omega
theorem strs_append (a b : List ByteArray) : strs (a ++ b) = strs a ++ strs b := by simp [strs]
theorem grow_cell {W w' : World} {v : Value} {b o : Nat} (hg : W.grownBy w' v.ownBlock) (hb : b < W.heap.size) (hne : ∀ g, v.ownBlock = some g → g ≠ b) : w'.cell? ⟨b, o, none⟩ = W.cell? ⟨b, o, none⟩ :=
  World.cell?_of_block (a := ⟨b, o, none⟩) (hg.block b hb fun he => hne b he.symm rfl)
theorem info9_of : ∃ i, Tryz.prog.info? 9 = some i ∧ i.zero = some (.string ⟨#[]⟩) ∧ i.size = 1 ∧ i.bytes = 16 := by
  have h := info9
  cases hi : Tryz.prog.info? 9 with
  | none => rw [hi] at h; cases h
  | some j => rw [hi] at h; simp only [Option.map_some, Option.some.injEq, Prod.mk.injEq] at h; exact ⟨j, rfl, h.1, h.2.1, h.2.2⟩
set_option maxHeartbeats 1000000 in
set_option maxRecDepth 100000 in
theorem joined_none (a : Option Addr) (c : Nat) (w : World) : Calls Tryz.prog 27 #[.slice a 0 c] w fun e w' => e = .returned (.string ⟨#[]⟩) ∧ w' = w := by
  have H := Lib.hid (Tryz.strings_Join_none a c ⟨#[]⟩ w)
  go_enter Tryz.func27, Tryz.ntmps27
  go_wp2_with fail
  refine H.out.mono ?_
  rintro e w' ⟨rfl, rfl⟩
  go_wp2
  go_ret
  exact ⟨rfl, rfl⟩
set_option maxHeartbeats 8000000 in
set_option maxRecDepth 100000 in
theorem dataText_any (es : List Elm) (la : Option Addr) (lc : Nat) (w : World) (hE : ElmsAt w (.slice la es.length lc) es) (h64 : es.length ≤ 64) (hp64 : ∀ e ∈ es, e.2.length ≤ 64) (hl : (elmsT es).length ≤ 35184372088832) :
    Calls Tryz.prog 30 #[.slice la es.length lc] w fun e w' => e = .returned (.string (bytes (if es = [] then [45] else elmsT es))) ∧ Below w.heap.size w w' := by
  obtain ⟨i0, hi, hz0, hz1, hz2⟩ := info9_of
  have HI := Lib.hid hi
  have HI0 := Lib.hid hz0
  have HI1 := Lib.hid hz1
  have HI2 := Lib.hid hz2
  have HP64 := Lib.hid hp64
  clear hi hz0 hz1 hz2 hp64
  go_enter Tryz.func30, Tryz.ntmps30
  go_wp2
  go_loopw [3, 10] (fun v i wr => ∃ k : Nat, k ≤ es.length ∧ i = .int .i64 k ∧ Below w.heap.size w wr ∧ wr.ownsRow w.heap.size 9 1 v (elmsP (es.take k)).length (strs (elmsP (es.take k)))) (fun _ i _ => es.length - (intOf i).toNat)
  case atStart => exact ⟨0, Nat.zero_le _, rfl, Below.refl _ _, World.ownsRow_nil _ _ _ _⟩
  case round =>
    obtain ⟨k, hk, rfl, hB, hown⟩ := hrel
    have hcnt := elmsP_length (es.take k) (fun e he => HP64.out e (List.mem_of_mem_take he))
    rw [List.length_take] at hcnt
    by_cases hlt : k < es.length
    · obtain ⟨x, hx⟩ : ∃ x, es[k]? = some x := ⟨es[k]'hlt, List.getElem?_eq_getElem _⟩
      have hx64 := HP64.out x (List.mem_of_getElem? hx)
      obtain ⟨la', lc', e0, hme⟩ := hE
      cases e0
      obtain ⟨b, o, rfl, hbl, hc⟩ := hme (by omega)
      obtain ⟨lv, c1, c2, hps⟩ := hc k x hx
      obtain ⟨sa, sc, hlv, hpc⟩ := hps
      subst hlv
      have d1 := (hB.cell (p := ⟨b, o + 2 * k, none⟩) hbl).trans c1
      have d2 := (hB.cell (p := ⟨b, o + 2 * k + 1, none⟩) hbl).trans c2
      rw [Nat.mul_comm 2 k] at d1 d2
      have HX := Lib.hid hx
      have HO := Lib.hid hown
      have HB := Lib.hid hB
      have hsz := hB.size
      clear hme hc hx hown hB c1 c2
      have hN1 := cells_new (wr.alloc (.cells #[.string x.1, .slice sa x.2.length sc] 52)) #[.string ⟨#[91]⟩, .string x.1] 9
      rw [show (wr.alloc (.cells #[.string x.1, .slice sa x.2.length sc] 52)).heap.size = wr.heap.size + 1 by simp] at hN1
      have HN1 := Lib.hid hN1
      clear hN1
      have hb2 : Below wr.heap.size wr ((wr.alloc (.cells #[.string x.1, .slice sa x.2.length sc] 52)).alloc (.cells #[.string ⟨#[91]⟩, .string x.1] 9)) := ((Below.refl _ _).alloc (Nat.le_refl _) _).alloc (by simp) _
      have O2 := Lib.hid (kept_below HO.out hb2)
      have HB2 := Lib.hid (HB.out.trans (hb2.mono hsz))
      clear hb2
      go_wp2_with (at_builtin; refine wpList_append_own _ rfl _ _ 91 rfl w.heap.size 9 i0 (.string ⟨#[]⟩) 1 16 Tryz.underlying91 HI.out HI0.out HI1.out HI2.out rfl (by decide) _ (elmsP (es.take k)).length _ rfl O2.out ⟨wr.heap.size + 1, 0, none⟩ 2 2 [.string ⟨#[91]⟩, .string x.1] rfl rfl HN1.out (by simp [Value.oneCell']) (by unfold maxLen; omega) (by omega) (by simp; omega) ?_; intro v1 w1 hown1 hgrow1 _; have ge : w1.cell? ⟨wr.heap.size, 1, none⟩ = some (.slice sa x.2.length sc) := (grow_cell (o := 1) hgrow1 (b := wr.heap.size) (by simp; omega) (fun g hg => by have := (HO.out.lt g hg).2; omega)).trans (by simp [go_sem]))
      have HB3 := Lib.hid (HB2.out.grown hgrow1 HB2.out.size (fun g hg => (HO.out.lt g hg).1))
      obtain ⟨P0, hP0⟩ : ∃ P0, elmsP (es.take k) ++ [⟨#[91]⟩, x.1] = P0 := ⟨_, rfl⟩
      have hl0 : P0.length = (elmsP (es.take k)).length + 2 := by rw [← hP0]; simp
      have hs0 : strs (elmsP (es.take k)) ++ [.string ⟨#[91]⟩, .string x.1] = strs P0 := by rw [← hP0, strs_append]; rfl
      rw [hs0, ← hl0] at hown1
      have HP0 := Lib.hid hP0
      clear hgrow1 O2 HB2 hs0 HN1 hP0
      go_loopw [3, 22] (fun v j wy => ∃ m : Nat, m ≤ x.2.length ∧ j = .int .i64 m ∧ Below w.heap.size w wy ∧ wy.ownsRow w.heap.size 9 1 v (P0 ++ prmsP (x.2.take m)).length (strs (P0 ++ prmsP (x.2.take m)))) (fun _ j _ => x.2.length - (intOf j).toNat)
      case atStart => exact ⟨0, Nat.zero_le _, rfl, HB3.out, by simpa [prmsP] using hown1⟩
      case round =>
        obtain ⟨m, hm, rfl, hBy, howny⟩ := hrel
        by_cases hmt : m < x.2.length
        · obtain ⟨p, hp⟩ : ∃ p, x.2[m]? = some p := ⟨x.2[m]'hmt, List.getElem?_eq_getElem _⟩
          obtain ⟨b2, o2, hsa, hb2l, hpc2⟩ := hpc (by omega)
          subst hsa
          have f1 := (hBy.cell (p := ⟨b2, o2 + 2 * m, none⟩) hb2l).trans (hpc2 m p hp).1
          have f2 := (hBy.cell (p := ⟨b2, o2 + 2 * m + 1, none⟩) hb2l).trans (hpc2 m p hp).2
          rw [Nat.mul_comm 2 m] at f1 f2
          have hPX : p.2.size ≤ 70368744177664 := Nat.le_trans (val_le (List.mem_of_getElem? HX.out) (List.mem_of_getElem? hp)) (Nat.le_trans hl (by decide))
          have HV := Lib.hid (fun W => value_any p.2 W hPX)
          have HPm := Lib.hid hp
          clear hpc hpc2 hp
          have q0 : (wr.alloc (.cells #[.string p.1, .string p.2] 54)).cell? ⟨wr.heap.size, 0, none⟩ = some (.string p.1) := by simp [go_sem]
          have q1 : (wr.alloc (.cells #[.string p.1, .string p.2] 54)).cell? ⟨wr.heap.size, 1, none⟩ = some (.string p.2) := by simp [go_sem]
          have hS0 : Below w.heap.size w (wr.alloc (.cells #[.string p.1, .string p.2] 54)).drew := (hBy.alloc hBy.size _).drew
          have OY : Hid ((wr.alloc (.cells #[.string p.1, .string p.2] 54)).ownsRow w.heap.size 9 1 u3 (P0 ++ prmsP (x.2.take m)).length (strs (P0 ++ prmsP (x.2.take m)))) := Lib.hid (howny.alloc _)
          have hlow : ∀ g, u3.ownBlock = some g → g < wr.heap.size := fun g hg => (howny.lt g hg).2
          have HLOW := Lib.hid hlow
          have hcm : (prmsP (x.2.take m)).length = 5 * m := by rw [prmsP_length, List.length_take]; omega
          have hcm2 : (P0 ++ prmsP (x.2.take m)).length ≤ 323 * 64 + 2 + 5 * 64 := by rw [List.length_append, hcm, hl0]; omega
          clear hlow howny hBy hcm
          go_wp2_with fail
          refine wp_region_held_drew (S := fun W' => Below w.heap.size w W' ∧ W'.cell? ⟨wr.heap.size, 0, none⟩ = some (.string p.1) ∧ W'.cell? ⟨wr.heap.size, 1, none⟩ = some (.string p.2)) (by kernel_rfl) ⟨hS0, q0, q1⟩ (fun hHeld => ?_)
          refine wpAnyH_take (i := 0) (v := ?_) rfl (by kernel_rfl) (by kernel_rfl) (by kernel_rfl) (fun _ _ _ h => h) (Or.inl ⟨by rfl, ?_⟩) (by assumption) ?_
          rotate_left
          · intro w hSw; (try dsimp only at hSw); go_simp; first | done | with_reducible rfl
          try simp only [Act.put, List.getElem_toArray, List.getElem_cons_zero, List.setIfInBounds_toArray, List.set_cons_zero, List.set_cons_succ]
          refine wpAnyH_take (i := 1) (v := ?_) rfl (by kernel_rfl) (by kernel_rfl) (by kernel_rfl) (fun _ _ _ h => h) (Or.inl ⟨by rfl, ?_⟩) (by assumption) ?_
          rotate_left
          · intro w hSw; (try dsimp only at hSw); go_simp; first | done | with_reducible rfl
          try simp only [Act.put, List.getElem_toArray, List.getElem_cons_zero, List.getElem_cons_succ, List.setIfInBounds_toArray, List.set_cons_zero, List.set_cons_succ]
          refine wpAnyH_take (i := 2) (v := ?_) rfl (by kernel_rfl) (by kernel_rfl) (by kernel_rfl) (fun _ _ _ h => h) (Or.inl ⟨by rfl, ?_⟩) (by assumption) ?_
          rotate_left
          · intro w hSw; (try dsimp only at hSw); go_simp; first | done | with_reducible rfl
          try simp only [Act.put, List.getElem_toArray, List.getElem_cons_zero, List.getElem_cons_succ, List.setIfInBounds_toArray, List.set_cons_zero, List.set_cons_succ]
          refine wpAnyH_take (i := 3) (v := ?_) rfl (by kernel_rfl) (by kernel_rfl) (by kernel_rfl) (fun _ _ _ h => h) (Or.inl ⟨by rfl, ?_⟩) (by assumption) ?_
          rotate_left
          · intro w hSw; (try dsimp only at hSw); go_simp; first | done | with_reducible rfl
          try simp only [Act.put, List.getElem_toArray, List.getElem_cons_zero, List.getElem_cons_succ, List.setIfInBounds_toArray, List.set_cons_zero, List.set_cons_succ]
          refine wpAnyH_take (i := 4) (v := ?_) rfl (by kernel_rfl) (by kernel_rfl) (by kernel_rfl) (fun _ _ _ h => h) (Or.inl ⟨by rfl, ?_⟩) (by assumption) ?_
          rotate_left
          · intro w hSw; (try dsimp only at hSw); go_simp; first | done | with_reducible rfl
          try simp only [Act.put, List.getElem_toArray, List.getElem_cons_zero, List.getElem_cons_succ, List.setIfInBounds_toArray, List.set_cons_zero, List.set_cons_succ]
          refine wpAnyH_ready (rs := [5]) (by kernel_rfl) (by simp) ?_
          refine AllReadyH.cons rfl (fun K hK => ?_) AllReadyH.nil
          go_simp
          (go_at_call 17; refine (HV.out _).mono ?_; rintro e w' ⟨rfl, hz⟩)
          go_wp2_with fail
          have hlt0 : wr.heap.size < (wr.alloc (.cells #[.string p.1, .string p.2] 54)).drew.heap.size := by show wr.heap.size < (wr.alloc _).heap.size; simp
          have hS1 : Below w.heap.size w w' ∧ w'.cell? ⟨wr.heap.size, 0, none⟩ = some (.string p.1) ∧ w'.cell? ⟨wr.heap.size, 1, none⟩ = some (.string p.2) := ⟨hHeld.1.trans (hz.mono hHeld.1.size), ((bcell hz).1 _ 0 hlt0).trans hHeld.2.1, ((bcell hz).1 _ 1 hlt0).trans hHeld.2.2⟩
          have OW : Hid (w'.ownsRow w.heap.size 9 1 u3 (P0 ++ prmsP (x.2.take m)).length (strs (P0 ++ prmsP (x.2.take m)))) := Lib.hid (kept_below (W := (wr.alloc (.cells #[.string p.1, .string p.2] 54)).drew) OY.out hz)
          have hzw : wr.heap.size < w'.heap.size := Nat.lt_of_lt_of_le hlt0 hz.size
          refine hK.out _ _ hS1 (fun hHeld2 => ?_)
          clear hK K hz hHeld OY hS0 q0 q1
          refine wpAnyH_ready (rs := [6]) (by kernel_rfl) (by simp) ?_
          refine AllReadyH.cons rfl (fun K hK => ?_) AllReadyH.nil
          go_simp
          have hS2 : Below w.heap.size w (w'.alloc (.cells #[.string ⟨#[32]⟩, .string p.1, .string ⟨#[61, 34]⟩, .string (bytes (valueL p.2.data.toList)), .string ⟨#[34]⟩] 9)) ∧ (w'.alloc (.cells #[.string ⟨#[32]⟩, .string p.1, .string ⟨#[61, 34]⟩, .string (bytes (valueL p.2.data.toList)), .string ⟨#[34]⟩] 9)).cell? ⟨wr.heap.size, 0, none⟩ = some (.string p.1) ∧ (w'.alloc (.cells #[.string ⟨#[32]⟩, .string p.1, .string ⟨#[61, 34]⟩, .string (bytes (valueL p.2.data.toList)), .string ⟨#[34]⟩] 9)).cell? ⟨wr.heap.size, 1, none⟩ = some (.string p.2) := by
            have hb := (Below.refl w'.heap.size w').alloc (Nat.le_refl _) (.cells #[.string ⟨#[32]⟩, .string p.1, .string ⟨#[61, 34]⟩, .string (bytes (valueL p.2.data.toList)), .string ⟨#[34]⟩] 9)
            exact ⟨hHeld2.1.trans (hb.mono hHeld2.1.size), ((bcell hb).1 _ 0 hzw).trans hHeld2.2.1, ((bcell hb).1 _ 1 hzw).trans hHeld2.2.2⟩
          refine hK.out _ _ hS2 (fun hHeld3 => ?_)
          clear hK K hS1 hS2 hHeld2
          refine wpAnyH_ready (rs := [7]) (by kernel_rfl) (by simp) ?_
          refine AllReadyH.cons rfl (fun K hK => ?_) AllReadyH.nil
          rw [if_pos (by rfl)]
          refine wp_append_own _ _ _ 91 rfl w.heap.size 9 i0 (.string ⟨#[]⟩) 1 16 Tryz.underlying91 HI.out HI0.out HI1.out HI2.out rfl (by decide) u3 (P0 ++ prmsP (x.2.take m)).length _ rfl (OW.out.alloc _) ⟨w'.heap.size, 0, none⟩ 5 5 [.string ⟨#[32]⟩, .string p.1, .string ⟨#[61, 34]⟩, .string (bytes (valueL p.2.data.toList)), .string ⟨#[34]⟩] rfl rfl (cells_new w' #[.string ⟨#[32]⟩, .string p.1, .string ⟨#[61, 34]⟩, .string (bytes (valueL p.2.data.toList)), .string ⟨#[34]⟩] 9) (by simp [Value.oneCell']) (by unfold maxLen; omega) (by omega) hHeld3.1.size ?_
          intro v2 w2 hown2 hgrow2 _
          try simp only [Act.put, List.getElem_toArray, List.getElem_cons_zero, List.getElem_cons_succ, List.setIfInBounds_toArray, List.set_cons_zero, List.set_cons_succ]
          have hzw2 : wr.heap.size < (w'.alloc (.cells #[.string ⟨#[32]⟩, .string p.1, .string ⟨#[61, 34]⟩, .string (bytes (valueL p.2.data.toList)), .string ⟨#[34]⟩] 9)).heap.size := by simp; omega
          have hS3 : Below w.heap.size w w2 ∧ w2.cell? ⟨wr.heap.size, 0, none⟩ = some (.string p.1) ∧ w2.cell? ⟨wr.heap.size, 1, none⟩ = some (.string p.2) :=
            ⟨hHeld3.1.grown hgrow2 hHeld3.1.size (fun g hg => (OW.out.lt g hg).1), (grow_cell hgrow2 hzw2 (fun g hg => by have := HLOW.out g hg; omega)).trans hHeld3.2.1, (grow_cell hgrow2 hzw2 (fun g hg => by have := HLOW.out g hg; omega)).trans hHeld3.2.2⟩
          have htk : P0 ++ prmsP (x.2.take (m + 1)) = (P0 ++ prmsP (x.2.take m)) ++ prmP p := by rw [prmsP_take HPm.out, List.append_assoc]
          have hst : strs (P0 ++ prmsP (x.2.take m)) ++ [.string ⟨#[32]⟩, .string p.1, .string ⟨#[61, 34]⟩, .string (bytes (valueL p.2.data.toList)), .string ⟨#[34]⟩] = strs (P0 ++ prmsP (x.2.take (m + 1))) := by rw [htk, strs_append (P0 ++ prmsP (x.2.take m))]; rfl
          have hln : (P0 ++ prmsP (x.2.take m)).length + 5 = (P0 ++ prmsP (x.2.take (m + 1))).length := by rw [htk]; generalize P0 ++ prmsP (x.2.take m) = A; simp [prmP]
          rw [hst, hln] at hown2
          refine hK.out _ _ hS3 (fun hHeld4 => ?_)
          have HO2 := Lib.hid hown2
          have HB4 := Lib.hid hHeld4.1
          clear hK K hS3 hHeld3 hgrow2 hown2 htk hst hln
          refine wpAnyH_take (i := 8) (v := ?_) rfl (by kernel_rfl) (by kernel_rfl) (by kernel_rfl) (fun _ _ _ h => h) (Or.inl ⟨by rfl, ?_⟩) (by assumption) ?_
          rotate_left
          · intro w hSw; (try dsimp only at hSw); go_simp; first | done | with_reducible rfl
          try simp only [Act.put, List.getElem_toArray, List.getElem_cons_zero, List.getElem_cons_succ, List.setIfInBounds_toArray, List.set_cons_zero, List.set_cons_succ]
          refine wpAnyH_done (by kernel_rfl) ?_ _
          go_wp2
          go_roundw
          case rel => exact ⟨m + 1, by omega, by go_num, HB4.out, HO2.out⟩
          case measure => simp [intOf]; omega
        · obtain rfl : m = x.2.length := by omega
          have hcm : (P0 ++ prmsP (x.2.take x.2.length)).length ≤ 323 * 64 + 2 + 5 * 64 := by rw [List.length_append, prmsP_length, List.length_take, hl0]; omega
          have OY := Lib.hid (howny.alloc (.cells #[.string ⟨#[93]⟩] 9))
          have hsy := hBy.size
          have HBY := Lib.hid hBy
          have HLT := Lib.hid (fun g hg => (howny.lt g hg).1)
          clear howny hBy
          go_wp2_with (at_builtin; refine wpList_append_own _ rfl _ _ 91 rfl w.heap.size 9 i0 (.string ⟨#[]⟩) 1 16 Tryz.underlying91 HI.out HI0.out HI1.out HI2.out rfl (by decide) _ (P0 ++ prmsP (x.2.take x.2.length)).length _ rfl OY.out ⟨wr.heap.size, 0, none⟩ 1 1 [.string ⟨#[93]⟩] rfl rfl (cells_new wr #[.string ⟨#[93]⟩] 9) (by simp [Value.oneCell']) (by unfold maxLen; omega) (by omega) (by simp; omega) ?_; intro v2 w2 hown2 hgrow2 _)
          have HB5 := Lib.hid ((HBY.out.alloc hsy (.cells #[.string ⟨#[93]⟩] 9)).grown hgrow2 (by simp; omega) HLT.out)
          have htk : elmsP (es.take (k + 1)) = (P0 ++ prmsP (x.2.take x.2.length)) ++ [⟨#[93]⟩] := by
            rw [elmsP_take HX.out, ← HP0.out, List.take_length]
            unfold elmP
            simp
          have hst : strs (P0 ++ prmsP (x.2.take x.2.length)) ++ [.string ⟨#[93]⟩] = strs (elmsP (es.take (k + 1))) := by rw [htk, strs_append (P0 ++ prmsP (x.2.take x.2.length))]; rfl
          have hln : (P0 ++ prmsP (x.2.take x.2.length)).length + 1 = (elmsP (es.take (k + 1))).length := by rw [htk]; generalize P0 ++ prmsP (x.2.take x.2.length) = A; simp
          rw [hst, hln] at hown2
          go_roundw
          case rel => exact ⟨k + 1, by omega, by go_num, HB5.out, hown2⟩
          case measure => simp [intOf]; omega
    · obtain rfl : k = es.length := by omega
      rw [List.take_length] at hown hcnt
      by_cases hes : es = []
      · subst hes
        obtain ⟨a0, c0, rfl⟩ : ∃ a c, u3 = .slice a 0 c := by
          rcases hown.2 with ⟨h, _⟩ | ⟨g, cap, cur, h, _⟩
          · exact ⟨_, _, h⟩
          · exact ⟨_, _, h⟩
        have HJ := Lib.hid (fun W => joined_none a0 c0 W)
        have HN : Hid (∀ W, Calls Tryz.prog 29 #[.string ⟨#[]⟩] W fun e w' => e = .returned (.string (bytes [45])) ∧ w' = W) := Lib.hid (fun W => orNone_any ⟨#[]⟩ W)
        have HB := Lib.hid hB
        clear hown hcnt hE hB
        go_wp2_with fail
        refine (HJ.out _).mono ?_
        rintro e w2 ⟨rfl, rfl⟩
        go_wp2_with fail
        refine (HN.out _).mono ?_
        rintro e w3 ⟨rfl, rfl⟩
        go_wp2
        go_ret
        exact ⟨rfl, HB.out⟩
      · have hpos : 0 < (elmsT es).length := by
          cases es with
          | nil => exact absurd rfl hes
          | cons e es =>
            have e2 : elmsT (e :: es) = elmT e ++ elmsT es := rfl
            rw [e2, List.length_append]; simp [elmT]
            omega
        have hpp : 0 < (elmsP es).length := by
          cases es with
          | nil => exact absurd rfl hes
          | cons e es =>
            have e2 : elmsP (e :: es) = elmP e ++ elmsP es := rfl
            rw [e2, List.length_append, elmP_length]; omega
        rcases hown.2 with ⟨_, h0⟩ | ⟨g, cap, cur, hv, hg1, hg2, hg3, hg4, hg5, hg6⟩
        · omega
        · subst hv
          have hJ := joined_row g cap (elmsP es) wr (fun j x hx => by
            have hj := (List.getElem?_eq_some_iff.1 hx).1
            rw [hown.cellAt j (by omega)]
            unfold strs
            rw [List.getElem?_map, hx]
            rfl) (Array.getElem?_eq_some_iff.1 hg2).1 hg3 (by omega) (by rw [elmsP_flat]; omega)
          rw [elmsP_flat] at hJ
          have HJ := Lib.hid hJ
          have HN : Hid (∀ W, Calls Tryz.prog 29 #[.string (bytes (elmsT es))] W fun e w' => e = .returned (.string (bytes (elmsT es))) ∧ w' = W) := Lib.hid fun W => by
            have h := orNone_any (bytes (elmsT es)) W
            rw [if_neg (by rw [bytes_size]; omega)] at h
            exact h
          have HB := Lib.hid hB
          clear hown hcnt hE hB hJ hg2
          go_wp2_with fail
          refine HJ.out.mono ?_
          rintro e w2 ⟨rfl, hb2⟩
          have HB2 := Lib.hid (HB.out.trans (hb2.mono HB.out.size))
          clear hb2
          go_wp2_with fail
          refine (HN.out _).mono ?_
          rintro e w3 ⟨rfl, rfl⟩
          go_wp2
          go_ret
          exact ⟨rfl, HB2.out⟩
end Go.Proofs.YtnaijahhogndjaaGreatDoor
