/-
  SyslGets returns true for every event and numbers: a parameter that is got is one of the event's, of that element and name, the first one of that name; of no Id nothing is got.
  Conditions: none (every input); the listed variables stand as the program's text lays them (the card ties them).
-/
import Derived.Test.YtnaijahhogndjaaGreatDoorRights
import Derived.Test.YtnaijahhogndjaaGreatDoorGet
namespace Go.Proofs.YtnaijahhogndjaaGreatDoor.syslGets
open Go.ChangeShapes Go.WideShapes Go.ChangeAt Go.RowKit
open Go.Proofs.YtnaijahhogndjaaGreatDoor.syslRight (right_zero rok Blk)

theorem find_id {es : List Elm} (hd : dataB es = true) {i : Nat} {x : Elm} (hx : es[i]? = some x) : es.findIdx (isIdB x.1) = i := by
  unfold dataB at hd
  rw [Bool.and_eq_true, decide_eq_true_iff] at hd
  obtain ⟨hi, hxi⟩ := List.getElem?_eq_some_iff.1 hx
  rw [List.findIdx_eq hi]
  refine ⟨by rw [hxi]; exact decide_eq_true rfl, fun j hj => decide_eq_false fun he => ?_⟩
  have hn := hd.2
  unfold List.Nodup at hn
  rw [List.pairwise_iff_getElem] at hn
  have := hn j i (by rw [List.length_map]; omega) (by rw [List.length_map]; exact hi) hj
  apply this
  rw [List.getElem_map, List.getElem_map, hxi, he]
theorem find_none {es : List Elm} (hd : dataB es = true) (nm : ByteArray) : getL es ⟨#[]⟩ nm = (⟨#[]⟩, false) := by
  unfold getL
  have : es[es.findIdx (isIdB ⟨#[]⟩)]? = none := by
    rw [List.getElem?_eq_none_iff]
    rcases Nat.lt_or_ge (es.findIdx (isIdB ⟨#[]⟩)) es.length with h | h
    · have h1 := List.findIdx_getElem (w := h)
      unfold dataB at hd
      rw [Bool.and_eq_true, List.all_eq_true] at hd
      have h2 := hd.1 _ (List.getElem_mem h)
      unfold okE nameB at h2
      simp only [Bool.and_eq_true] at h2
      have h3 := (plain_len h2.1.1).1
      have h4 : (es[es.findIdx (isIdB ⟨#[]⟩)]'h).1 = ⟨#[]⟩ := of_decide_eq_true h1
      rw [h4] at h3
      exact absurd h3 (by decide)
    · exact h
  rw [this]
theorem get_some {es : List Elm} (hd : dataB es = true) {i : Nat} {x : Elm} (hx : es[i]? = some x) {m : Nat} {q : Prm} {nm : ByteArray} (hq : x.2[m]? = some q) (hqn : q.1 = nm) (hmin : ∀ j, j < m → ∀ r, x.2[j]? = some r → r.1 ≠ nm) :
    getL es x.1 nm = (q.2, true) := by
  unfold getL
  rw [find_id hd hx, hx]
  simp only
  obtain ⟨hm, hqm⟩ := List.getElem?_eq_some_iff.1 hq
  have : x.2.findIdx (isNmB nm) = m := by
    rw [List.findIdx_eq hm]
    refine ⟨by rw [hqm]; exact decide_eq_true hqn, fun j hj => decide_eq_false fun he => ?_⟩
    exact hmin j hj _ (List.getElem?_eq_getElem (by omega)) he
  rw [this, hq]
theorem get_found {es : List Elm} (hd : dataB es = true) {i k : Nat} {x : Elm} {p : Prm} (hx : es[i]? = some x) (hp : x.2[k]? = some p) : ∃ m q, x.2[m]? = some q ∧ m ≤ k ∧ q.1 = p.1 ∧ (∀ j, j < m → ∀ r, x.2[j]? = some r → r.1 ≠ p.1) ∧ getL es x.1 p.1 = (q.2, true) := by
  obtain ⟨hk, hpk⟩ := List.getElem?_eq_some_iff.1 hp
  have hlt : x.2.findIdx (isNmB p.1) < x.2.length := List.findIdx_lt_length_of_exists ⟨p, by rw [← hpk]; exact List.getElem_mem hk, decide_eq_true rfl⟩
  have hat := List.findIdx_getElem (w := hlt)
  have hmin : ∀ j, j < x.2.findIdx (isNmB p.1) → ∀ r, x.2[j]? = some r → r.1 ≠ p.1 := by
    intro j hj r hr he
    have := List.not_of_lt_findIdx hj
    obtain ⟨hj2, hjr⟩ := List.getElem?_eq_some_iff.1 hr
    rw [hjr] at this
    exact absurd (decide_eq_true he) (by simpa [isNmB] using this)
  have hle : x.2.findIdx (isNmB p.1) ≤ k := by
    rcases Nat.lt_or_ge k (x.2.findIdx (isNmB p.1)) with h | h
    · exact absurd rfl (hmin k h p hp)
    · exact h
  have hq1 : (x.2[x.2.findIdx (isNmB p.1)]'hlt).1 = p.1 := of_decide_eq_true hat
  exact ⟨_, _, List.getElem?_eq_getElem hlt, hle, hq1, hmin, get_some hd hx (List.getElem?_eq_getElem hlt) hq1 hmin⟩
set_option maxHeartbeats 4000000 in
set_option maxRecDepth 100000 in
theorem walk {g f a : Int} {t : Bool} {ho ap pr id tx : ByteArray} {da : List Elm} (dv : Value) (I K : Int) (w : World) (hS : Std w) (hm : Max w) (hI : Ev.In ⟨g, f, t, a, ho, ap, pr, id, da, tx⟩ w dv) :
    Calls Tryz.prog 9 #[.agg #[.int .i64 g, .int .i64 f, .bool t, .int .i64 a, .string ho, .string ap, .string pr, .string id, dv, .string tx], .int .i64 I, .int .i64 K] w
      fun e w' => e = .returned (.bool true) ∧ Below w.heap.size w w' := by
  obtain ⟨la, lc, hdv⟩ := hI.data.shape
  subst hdv
  have hlen : da.length ≤ 17592186044416 := hI.fits.1
  have hb : Below w.heap.size w (w.alloc (.cells #[.int .i64 g, .int .i64 f, .bool t, .int .i64 a, .string ho, .string ap, .string pr, .string id, .slice la da.length lc, .string tx] 24)) := (Below.refl _ _).alloc (Nat.le_refl _) _
  have hS1 := hS.below hb
  have hm1 := hm.below hb
  have hI1 := hI.below hb
  go_enter Tryz.func9, Tryz.ntmps9
  go_wp2_with fail
  refine (shown_any _ hS1 hm1).mono ?_
  rintro r w2 ⟨rfl, hb2⟩
  have B2 := hb.trans (hb2.mono hb.size)
  have hS2 := hS1.below hb2
  have hI2 := hI1.below hb2
  obtain ⟨hc2, hf2⟩ := bcell hb2
  have hz2 : w.heap.size < w2.heap.size := by have := hb2.size; simp at this; omega
  have bE2 := (Blk.new w #[.int .i64 g, .int .i64 f, .bool t, .int .i64 a, .string ho, .string ap, .string pr, .string id, .slice la da.length lc, .string tx] 24).below hb2
  clear hb hb2 hS hS1 hm hm1 hI hI1
  obtain ⟨R, hR⟩ : ∃ R, rightE ⟨g, f, t, a, ho, ap, pr, id, da, tx⟩ = R := ⟨_, rfl⟩
  have HR := Lib.hid hR
  go_wp2_with fail
  refine (rok hR hS2 hI2).mono ?_
  rintro r w3 ⟨rfl, hb3⟩
  have B3 := B2.trans (hb3.mono B2.size)
  have hI3 := hI2.below hb3
  have bE := bE2.below hb3
  have hz3 : w.heap.size < w3.heap.size := Nat.lt_of_lt_of_le hz2 hb3.size
  clear hS2 hI2 B2 hR hb3 bE2 hc2 hf2
  have k0 : w3.cell? ⟨w.heap.size, 0, none⟩ = some (.int .i64 g) := (bE.2 0).trans rfl
  have k1 : w3.cell? ⟨w.heap.size, 1, none⟩ = some (.int .i64 f) := (bE.2 1).trans rfl
  have k2 : w3.cell? ⟨w.heap.size, 2, none⟩ = some (.bool t) := (bE.2 2).trans rfl
  have k3 : w3.cell? ⟨w.heap.size, 3, none⟩ = some (.int .i64 a) := (bE.2 3).trans rfl
  have k4 : w3.cell? ⟨w.heap.size, 4, none⟩ = some (.string ho) := (bE.2 4).trans rfl
  have k5 : w3.cell? ⟨w.heap.size, 5, none⟩ = some (.string ap) := (bE.2 5).trans rfl
  have k6 : w3.cell? ⟨w.heap.size, 6, none⟩ = some (.string pr) := (bE.2 6).trans rfl
  have k7 : w3.cell? ⟨w.heap.size, 7, none⟩ = some (.string id) := (bE.2 7).trans rfl
  have k8 : w3.cell? ⟨w.heap.size, 8, none⟩ = some (.slice la da.length lc) := (bE.2 8).trans rfl
  have k9 : w3.cell? ⟨w.heap.size, 9, none⟩ = some (.string tx) := (bE.2 9).trans rfl
  by_cases h0 : R = 0
  case neg =>
    have hne : (R == 0) = false := beq_eq_false_iff_ne.2 h0
    have hne2 : (R != 0) = true := by rw [bne, hne]; rfl
    clear h0
    go_wp2
    go_ret
    exact ⟨rfl, B3⟩
  subst h0
  by_cases hi : 0 ≤ I ∧ I < (da.length : Int)
  case neg =>
    rcases (show I < 0 ∨ (0 ≤ I ∧ (da.length : Int) ≤ I) by omega) with h1 | ⟨h1, h2⟩
    · clear hi
      go_wp2
      go_ret
      exact ⟨rfl, B3⟩
    · clear hi
      go_wp2
      go_ret
      exact ⟨rfl, B3⟩
  obtain ⟨h1, h2⟩ := hi
  obtain ⟨i, rfl⟩ : ∃ i : Nat, I = (i : Int) := ⟨I.toNat, by omega⟩
  obtain ⟨x, hx⟩ : ∃ x, da[i]? = some x := ⟨da[i]'(by omega), List.getElem?_eq_getElem _⟩
  have hE3 := hI3.data
  have hfx := hI3.fits.2 x (List.mem_of_getElem? hx)
  obtain ⟨la', lc', e0, hme⟩ := hE3
  cases e0
  obtain ⟨b, o, rfl, hlt, hc⟩ := hme (show 0 < da.length by omega)
  obtain ⟨lv, c1, c2, hps⟩ := hc i x hx
  obtain ⟨sa, sc, hlv⟩ : ∃ sa sc, lv = .slice sa x.2.length sc := by obtain ⟨sa, sc, h, _⟩ := hps; exact ⟨_, _, h⟩
  subst hlv
  have hii : o + i * 2 = o + 2 * i := by omega
  have hl2 : x.2.length ≤ 17592186044416 := hfx.2.1
  by_cases hk : 0 ≤ K ∧ K < (x.2.length : Int)
  case neg =>
    rcases (show K < 0 ∨ (0 ≤ K ∧ (x.2.length : Int) ≤ K) by omega) with h3 | ⟨h3, h4⟩
    · clear hk hc hme
      go_wp2
      go_ret
      exact ⟨rfl, B3⟩
    · clear hk hc hme
      go_wp2
      go_ret
      exact ⟨rfl, B3⟩
  obtain ⟨h3, h4⟩ := hk
  obtain ⟨k, rfl⟩ : ∃ k : Nat, K = (k : Int) := ⟨K.toNat, by omega⟩
  obtain ⟨p, hp⟩ : ∃ p, x.2[k]? = some p := ⟨x.2[k]'(by omega), List.getElem?_eq_getElem _⟩
  have hpsB := hps
  obtain ⟨sa', sc', e0, hmp⟩ := hps
  cases e0
  obtain ⟨b2, o2, rfl, hlt2, hc2⟩ := hmp (show 0 < x.2.length by omega)
  obtain ⟨p1, p2⟩ := hc2 k p hp
  have hkk : o2 + k * 2 = o2 + 2 * k := by omega
  have HD := Lib.hid (((right_zero _).1 HR.out).2.1.2.1)
  simp only at HD
  obtain ⟨m, q, hq, hmk, hqn, hmin, hget⟩ := get_found HD.out hx hp
  have HG1 := Lib.hid (fun V (hV : Below w3.heap.size w3 V) => get_any (g := g) (f := f) (a := a) (t := t) (ho := ho) (ap := ap) (pr := pr) (eid := id) (tx := tx) da (some ⟨b, o, none⟩) lc x.1 p.1 V (hI3.data.below hV) hI3.fits)
  have HG2 := Lib.hid (fun V (hV : Below w3.heap.size w3 V) => get_any (g := g) (f := f) (a := a) (t := t) (ho := ho) (ap := ap) (pr := pr) (eid := id) (tx := tx) da (some ⟨b, o, none⟩) lc ⟨#[]⟩ p.1 V (hI3.data.below hV) hI3.fits)
  rw [hget] at HG1
  rw [find_none HD.out p.1] at HG2
  simp only at HG1 HG2
  have al : ∀ (ob : Obj) (b' o' : Nat), b' < w3.heap.size → (w3.alloc ob).cell? ⟨b', o', none⟩ = w3.cell? ⟨b', o', none⟩ := fun ob b' o' h => (bcell ((Below.refl w3.heap.size w3).alloc (Nat.le_refl _) ob)).1 b' o' h
  have BX : Below w3.heap.size w3 ((w3.alloc (.cells #[.string p.1, .string p.2] 54)).drew) := ((Below.refl _ _).alloc (Nat.le_refl _) _).trans ((drewN_below _ 1).mono (by simp))
  have g0 : ∀ ob, (w3.alloc ob).cell? ⟨w.heap.size, 0, none⟩ = some (.int .i64 g) := fun ob => (al ob _ _ hz3).trans k0
  have g1 : ∀ ob, (w3.alloc ob).cell? ⟨w.heap.size, 1, none⟩ = some (.int .i64 f) := fun ob => (al ob _ _ hz3).trans k1
  have g2 : ∀ ob, (w3.alloc ob).cell? ⟨w.heap.size, 2, none⟩ = some (.bool t) := fun ob => (al ob _ _ hz3).trans k2
  have g3 : ∀ ob, (w3.alloc ob).cell? ⟨w.heap.size, 3, none⟩ = some (.int .i64 a) := fun ob => (al ob _ _ hz3).trans k3
  have g4 : ∀ ob, (w3.alloc ob).cell? ⟨w.heap.size, 4, none⟩ = some (.string ho) := fun ob => (al ob _ _ hz3).trans k4
  have g5 : ∀ ob, (w3.alloc ob).cell? ⟨w.heap.size, 5, none⟩ = some (.string ap) := fun ob => (al ob _ _ hz3).trans k5
  have g6 : ∀ ob, (w3.alloc ob).cell? ⟨w.heap.size, 6, none⟩ = some (.string pr) := fun ob => (al ob _ _ hz3).trans k6
  have g7 : ∀ ob, (w3.alloc ob).cell? ⟨w.heap.size, 7, none⟩ = some (.string id) := fun ob => (al ob _ _ hz3).trans k7
  have g8 : ∀ ob, (w3.alloc ob).cell? ⟨w.heap.size, 8, none⟩ = some (.slice (some ⟨b, o, none⟩) da.length lc) := fun ob => (al ob _ _ hz3).trans k8
  have g9 : ∀ ob, (w3.alloc ob).cell? ⟨w.heap.size, 9, none⟩ = some (.string tx) := fun ob => (al ob _ _ hz3).trans k9
  have gc1 : ∀ ob, (w3.alloc ob).cell? ⟨b, o + 2 * i, none⟩ = some (.string x.1) := fun ob => (al ob _ _ hlt).trans c1
  have gc2 : ∀ ob, (w3.alloc ob).cell? ⟨b, o + 2 * i + 1, none⟩ = some (.slice (some ⟨b2, o2, none⟩) x.2.length sc) := fun ob => (al ob _ _ hlt).trans c2
  clear hc hme hmp al
  have NX : ∀ V V', (V.cell? ⟨w.heap.size, 0, none⟩ = some (.int .i64 g) ∧ V.cell? ⟨w.heap.size, 1, none⟩ = some (.int .i64 f) ∧ V.cell? ⟨w.heap.size, 2, none⟩ = some (.bool t) ∧ V.cell? ⟨w.heap.size, 3, none⟩ = some (.int .i64 a) ∧ V.cell? ⟨w.heap.size, 4, none⟩ = some (.string ho) ∧ V.cell? ⟨w.heap.size, 5, none⟩ = some (.string ap) ∧ V.cell? ⟨w.heap.size, 6, none⟩ = some (.string pr) ∧ V.cell? ⟨w.heap.size, 7, none⟩ = some (.string id) ∧ V.cell? ⟨w.heap.size, 8, none⟩ = some (.slice (some ⟨b, o, none⟩) da.length lc) ∧ V.cell? ⟨w.heap.size, 9, none⟩ = some (.string tx) ∧ V.cell? ⟨b, o + 2 * i, none⟩ = some (.string x.1) ∧ V.cell? ⟨b, o + 2 * i + 1, none⟩ = some (.slice (some ⟨b2, o2, none⟩) x.2.length sc) ∧ V.cell? ⟨w3.heap.size, 0, none⟩ = some (.string p.1) ∧ V.cell? ⟨w3.heap.size, 1, none⟩ = some (.string p.2) ∧ w3.heap.size < V.heap.size ∧ Below w3.heap.size w3 V) → Below V.heap.size V V' → (V'.cell? ⟨w.heap.size, 0, none⟩ = some (.int .i64 g) ∧ V'.cell? ⟨w.heap.size, 1, none⟩ = some (.int .i64 f) ∧ V'.cell? ⟨w.heap.size, 2, none⟩ = some (.bool t) ∧ V'.cell? ⟨w.heap.size, 3, none⟩ = some (.int .i64 a) ∧ V'.cell? ⟨w.heap.size, 4, none⟩ = some (.string ho) ∧ V'.cell? ⟨w.heap.size, 5, none⟩ = some (.string ap) ∧ V'.cell? ⟨w.heap.size, 6, none⟩ = some (.string pr) ∧ V'.cell? ⟨w.heap.size, 7, none⟩ = some (.string id) ∧ V'.cell? ⟨w.heap.size, 8, none⟩ = some (.slice (some ⟨b, o, none⟩) da.length lc) ∧ V'.cell? ⟨w.heap.size, 9, none⟩ = some (.string tx) ∧ V'.cell? ⟨b, o + 2 * i, none⟩ = some (.string x.1) ∧ V'.cell? ⟨b, o + 2 * i + 1, none⟩ = some (.slice (some ⟨b2, o2, none⟩) x.2.length sc) ∧ V'.cell? ⟨w3.heap.size, 0, none⟩ = some (.string p.1) ∧ V'.cell? ⟨w3.heap.size, 1, none⟩ = some (.string p.2) ∧ w3.heap.size < V'.heap.size ∧ Below w3.heap.size w3 V') := by
    rintro V V' ⟨s0, s1, s2, s3, s4, s5, s6, s7, s8, s9, s10, s11, s12, s13, sz, sb⟩ hV
    have hc' := (bcell hV).1
    exact ⟨(hc' _ _ (Nat.lt_of_lt_of_le hz3 sb.size)).trans s0, (hc' _ _ (Nat.lt_of_lt_of_le hz3 sb.size)).trans s1, (hc' _ _ (Nat.lt_of_lt_of_le hz3 sb.size)).trans s2, (hc' _ _ (Nat.lt_of_lt_of_le hz3 sb.size)).trans s3, (hc' _ _ (Nat.lt_of_lt_of_le hz3 sb.size)).trans s4, (hc' _ _ (Nat.lt_of_lt_of_le hz3 sb.size)).trans s5, (hc' _ _ (Nat.lt_of_lt_of_le hz3 sb.size)).trans s6, (hc' _ _ (Nat.lt_of_lt_of_le hz3 sb.size)).trans s7, (hc' _ _ (Nat.lt_of_lt_of_le hz3 sb.size)).trans s8, (hc' _ _ (Nat.lt_of_lt_of_le hz3 sb.size)).trans s9, (hc' _ _ (Nat.lt_of_lt_of_le hlt sb.size)).trans s10, (hc' _ _ (Nat.lt_of_lt_of_le hlt sb.size)).trans s11, (hc' _ _ sz).trans s12, (hc' _ _ sz).trans s13, Nat.lt_of_lt_of_le sz hV.size, sb.trans (hV.mono sb.size)⟩
  have S0 : ((w3.alloc (.cells #[.string p.1, .string p.2] 54)).drew).cell? ⟨w.heap.size, 0, none⟩ = some (.int .i64 g) ∧ ((w3.alloc (.cells #[.string p.1, .string p.2] 54)).drew).cell? ⟨w.heap.size, 1, none⟩ = some (.int .i64 f) ∧ ((w3.alloc (.cells #[.string p.1, .string p.2] 54)).drew).cell? ⟨w.heap.size, 2, none⟩ = some (.bool t) ∧ ((w3.alloc (.cells #[.string p.1, .string p.2] 54)).drew).cell? ⟨w.heap.size, 3, none⟩ = some (.int .i64 a) ∧ ((w3.alloc (.cells #[.string p.1, .string p.2] 54)).drew).cell? ⟨w.heap.size, 4, none⟩ = some (.string ho) ∧ ((w3.alloc (.cells #[.string p.1, .string p.2] 54)).drew).cell? ⟨w.heap.size, 5, none⟩ = some (.string ap) ∧ ((w3.alloc (.cells #[.string p.1, .string p.2] 54)).drew).cell? ⟨w.heap.size, 6, none⟩ = some (.string pr) ∧ ((w3.alloc (.cells #[.string p.1, .string p.2] 54)).drew).cell? ⟨w.heap.size, 7, none⟩ = some (.string id) ∧ ((w3.alloc (.cells #[.string p.1, .string p.2] 54)).drew).cell? ⟨w.heap.size, 8, none⟩ = some (.slice (some ⟨b, o, none⟩) da.length lc) ∧ ((w3.alloc (.cells #[.string p.1, .string p.2] 54)).drew).cell? ⟨w.heap.size, 9, none⟩ = some (.string tx) ∧ ((w3.alloc (.cells #[.string p.1, .string p.2] 54)).drew).cell? ⟨b, o + 2 * i, none⟩ = some (.string x.1) ∧ ((w3.alloc (.cells #[.string p.1, .string p.2] 54)).drew).cell? ⟨b, o + 2 * i + 1, none⟩ = some (.slice (some ⟨b2, o2, none⟩) x.2.length sc) ∧ ((w3.alloc (.cells #[.string p.1, .string p.2] 54)).drew).cell? ⟨w3.heap.size, 0, none⟩ = some (.string p.1) ∧ ((w3.alloc (.cells #[.string p.1, .string p.2] 54)).drew).cell? ⟨w3.heap.size, 1, none⟩ = some (.string p.2) ∧ w3.heap.size < ((w3.alloc (.cells #[.string p.1, .string p.2] 54)).drew).heap.size ∧ Below w3.heap.size w3 ((w3.alloc (.cells #[.string p.1, .string p.2] 54)).drew) := ⟨g0 _, g1 _, g2 _, g3 _, g4 _, g5 _, g6 _, g7 _, g8 _, g9 _, gc1 _, gc2 _, (by simp [go_sem]), (by simp [go_sem]), by simp, BX⟩
  have HNX := Lib.hid NX
  have HS0 := Lib.hid S0
  clear NX S0
  go_wp2_with fail
  go_region_held3 (fun w' => w'.cell? ⟨w.heap.size, 0, none⟩ = some (.int .i64 g) ∧ w'.cell? ⟨w.heap.size, 1, none⟩ = some (.int .i64 f) ∧ w'.cell? ⟨w.heap.size, 2, none⟩ = some (.bool t) ∧ w'.cell? ⟨w.heap.size, 3, none⟩ = some (.int .i64 a) ∧ w'.cell? ⟨w.heap.size, 4, none⟩ = some (.string ho) ∧ w'.cell? ⟨w.heap.size, 5, none⟩ = some (.string ap) ∧ w'.cell? ⟨w.heap.size, 6, none⟩ = some (.string pr) ∧ w'.cell? ⟨w.heap.size, 7, none⟩ = some (.string id) ∧ w'.cell? ⟨w.heap.size, 8, none⟩ = some (.slice (some ⟨b, o, none⟩) da.length lc) ∧ w'.cell? ⟨w.heap.size, 9, none⟩ = some (.string tx) ∧ w'.cell? ⟨b, o + 2 * i, none⟩ = some (.string x.1) ∧ w'.cell? ⟨b, o + 2 * i + 1, none⟩ = some (.slice (some ⟨b2, o2, none⟩) x.2.length sc) ∧ w'.cell? ⟨w3.heap.size, 0, none⟩ = some (.string p.1) ∧ w'.cell? ⟨w3.heap.size, 1, none⟩ = some (.string p.2) ∧ w3.heap.size < w'.heap.size ∧ Below w3.heap.size w3 w')
    (first
      | assumption
      | exact HNX.out _ _ HS0.out (by assumption)
      | exact HS0.out)
    (first | (go_at_call 13; (with_reducible refine (HG1.out _ BX).mono ?_); rintro r w' ⟨rfl, hb4⟩))
  rename World => w4
  rename_i hS4
  obtain ⟨s0, s1, s2, s3, s4, s5, s6, s7, s8, s9, s10, s11, s12, s13, sz, sb⟩ := hS4
  clear HS0 g0 g1 g2 g3 g4 g5 g6 g7 g8 g9 gc1 gc2 k0 k1 k2 k3 k4 k5 k6 k7 k8 k9 c1 c2 p1 p2 BX
  have HC2 := Lib.hid hc2
  have HQ := Lib.hid hq
  have HQN := Lib.hid hqn
  have HMIN := Lib.hid hmin
  have HP := Lib.hid hp
  clear hc2 hq hqn hmin hp hget
  have hc4 := (bcell sb).1
  have HC4 := Lib.hid hc4
  clear hc4
  go_wp2
  go_loopw [11, 12] (fun fv n wr => ∃ (nn : Int) (mm c : Nat) (r : Prm), n = .int .i64 nn ∧ -1 ≤ nn ∧ nn ≤ (k : Int) ∧ x.2[mm]? = some r ∧ mm ≤ k ∧ r.1 = p.1 ∧ fv = .string r.2 ∧ (∀ j : Nat, nn < (j : Int) → j < mm → ∀ q, x.2[j]? = some q → q.1 ≠ p.1) ∧ wr = w4.drewN c) (fun _ n _ => (intOf n + 1).toNat)
  case atStart => exact ⟨(k : Int), k, 0, p, rfl, by omega, Int.le_refl _, HP.out, Nat.le_refl _, rfl, rfl, fun j h1 h2 => by omega, rfl⟩
  case round =>
    obtain ⟨nn, mm, c, r, rfl, n1, n2, hr, hmm, hrn, rfl, hno, rfl⟩ := hrel
    have HRR := Lib.hid hr
    have HRN := Lib.hid hrn
    have HNO := Lib.hid hno
    clear hr hrn hno
    by_cases hnn : 0 ≤ nn
    · obtain ⟨j, rfl⟩ : ∃ j : Nat, nn = (j : Int) := ⟨nn.toNat, by omega⟩
      obtain ⟨r', hr'⟩ : ∃ r', x.2[j]? = some r' := ⟨x.2[j]'(by omega), List.getElem?_eq_getElem _⟩
      have t1 : w4.cell? ⟨b2, o2 + 2 * j, none⟩ = some (.string r'.1) := (HC4.out _ _ hlt2).trans (HC2.out j r' hr').1
      have t2 : w4.cell? ⟨b2, o2 + 2 * j + 1, none⟩ = some (.string r'.2) := (HC4.out _ _ hlt2).trans (HC2.out j r' hr').2
      have ejj : o2 + j * 2 = o2 + 2 * j := by omega
      have ej2 : (j : Int) < (x.2.length : Int) := by omega
      have HR' := Lib.hid hr'
      clear hr'
      by_cases he : r'.1 = p.1
      · have hq1 : (r'.1.toList == p.1.toList) = true := by rw [eq_text]; exact decide_eq_true he
        have HE := Lib.hid he
        clear he
        go_wp2
        go_region
        go_wp2
        go_roundw
        case rel => exact ⟨(j : Int) - 1, j, _, r', by go_num, by omega, by omega, HR'.out, by omega, HE.out, rfl, fun j' h1 h2 => by omega, rfl⟩
        case measure => simp [intOf]
      · have hq1 : (r'.1.toList == p.1.toList) = false := by rw [eq_text]; exact decide_eq_false he
        have HE := Lib.hid he
        clear he
        go_wp2
        go_region
        go_wp2
        go_roundw
        case rel =>
          refine ⟨(j : Int) - 1, mm, _, r, by go_num, by omega, by omega, HRR.out, hmm, HRN.out, rfl, fun j' h1 h2 q hq => ?_, rfl⟩
          rcases (show (j : Int) < (j' : Int) ∨ j' = j by omega) with h | rfl
          · exact HNO.out j' h h2 q hq
          · rw [HR'.out] at hq; cases hq; exact HE.out
        case measure => simp [intOf]
    · obtain rfl : nn = -1 := by omega
      have hmeq : mm = m := by
        rcases Nat.lt_trichotomy mm m with h | h | h
        · exact absurd HRN.out (HMIN.out mm h r HRR.out)
        · exact h
        · exact absurd HQN.out (HNO.out m (by omega) h q HQ.out)
      subst hmeq
      obtain rfl : r = q := by have h := HRR.out.symm.trans HQ.out; exact Option.some.inj h
      have hqq : (r.2.toList == r.2.toList) = true := beq_self_eq_true _
      have BW : Below w3.heap.size w3 (w4.drewN c) := sb.trans ((drewN_below w4 c).mono sb.size)
      have BB := B3.trans (BW.mono B3.size)
      clear hmm hnn n1 n2
      go_wp2_with fail
      refine (HG2.out _ BW).mono ?_
      rintro r' w5 ⟨rfl, hb5⟩
      have B5 := BB.trans (hb5.mono BB.size)
      go_wp2
      go_ret
      exact ⟨rfl, B5⟩
end Go.Proofs.YtnaijahhogndjaaGreatDoor.syslGets
