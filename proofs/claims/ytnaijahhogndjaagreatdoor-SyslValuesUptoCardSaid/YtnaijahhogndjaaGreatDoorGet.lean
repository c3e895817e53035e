/- What sysl.Get answers: the value of the first parameter of that name of the first element of that Id. Conditions: sizes. -/
import Derived.Test.YtnaijahhogndjaaGreatDoorRight
namespace Go.Proofs.YtnaijahhogndjaaGreatDoor
open Go.ChangeShapes Go.WideShapes Go.ChangeAt Go.RowKit

def getL (es : List Elm) (id nm : ByteArray) : ByteArray × Bool :=
  match es[es.findIdx (isIdB id)]? with
  | none => (⟨#[]⟩, false)
  | some x => match x.2[x.2.findIdx (isNmB nm)]? with
    | none => (⟨#[]⟩, false)
    | some p => (p.2, true)
theorem fstI_miss {α : Type} {p : α → Bool} {l : List α} (h : l[l.findIdx p]? = none) : fstI p l = -1 := by
  unfold fstI
  rw [List.getElem?_eq_none_iff] at h
  rw [if_neg (by omega)]
theorem fstI_hit {α : Type} {p : α → Bool} {l : List α} {x : α} (h : l[l.findIdx p]? = some x) : fstI p l = (l.findIdx p : Int) ∧ l.findIdx p < l.length := by
  obtain ⟨h1, _⟩ := List.getElem?_eq_some_iff.1 h
  unfold fstI
  exact ⟨if_pos h1, h1⟩
set_option maxHeartbeats 2000000 in
set_option maxRecDepth 100000 in
theorem get_any {g f a : Int} {t : Bool} {ho ap pr eid tx : ByteArray} (es : List Elm) (la : Option Addr) (lc : Nat) (id nm : ByteArray) (w : World) (hE : ElmsAt w (.slice la es.length lc) es) (hfit : ElmsFit es) :
    Calls Tryz.prog 13 #[.agg #[.int .i64 g, .int .i64 f, .bool t, .int .i64 a, .string ho, .string ap, .string pr, .string eid, .slice la es.length lc, .string tx], .string id, .string nm] w
      fun e w' => e = .returned (.tuple #[.string (getL es id nm).1, .bool (getL es id nm).2]) ∧ Below w.heap.size w w' := by
  have hlen : es.length ≤ 17592186044416 := hfit.1
  have hfe := hfit.2
  obtain ⟨W, hW⟩ : ∃ W, (((w.alloc (.cells #[.int .i64 g, .int .i64 f, .bool t, .int .i64 a, .string ho, .string ap, .string pr, .string eid, .slice la es.length lc, .string tx] 24)).alloc (.cells #[.string id] 9)).alloc (.cells #[.string nm] 9)) = W := ⟨_, rfl⟩
  have hB : Below w.heap.size w W := by rw [← hW]; exact (((Below.refl _ _).alloc (Nat.le_refl _) _).alloc (by simp) _).alloc (by simp <;> omega) _
  have cE : W.cell? ⟨w.heap.size, 8, none⟩ = some (.slice la es.length lc) := by rw [← hW]; simp [go_sem]
  have cI : W.cell? ⟨w.heap.size + 1, 0, none⟩ = some (.string id) := by rw [← hW]; simp [go_sem]
  have cN : W.cell? ⟨w.heap.size + 1 + 1, 0, none⟩ = some (.string nm) := by rw [← hW]; simp [go_sem]
  have zW : w.heap.size + 1 + 1 < W.heap.size := by rw [← hW]; simp <;> omega
  have HI := Lib.hid (idx_id id (w.heap.size + 1) es (.slice la es.length lc) W (hE.below hB) hlen (by omega) cI)
  have hEW := hE.below hB
  cases hx : es[es.findIdx (isIdB id)]? with
  | none =>
    have e1 : getL es id nm = (⟨#[]⟩, false) := by unfold getL; rw [hx]
    rw [e1]
    rw [fstI_miss hx] at HI
    subst hW
    clear hE hEW hfit hfe hx e1 cE cI cN
    go_enter Tryz.func13, Tryz.ntmps13
    go_wp2_with fail
    refine HI.out.mono ?_
    rintro r w2 ⟨rfl, hb2⟩
    have B2 := hB.trans (hb2.mono hB.size)
    go_wp2
    go_ret2
    exact ⟨rfl, B2⟩
  | some x =>
    obtain ⟨q1, q2⟩ := fstI_hit hx
    rw [q1] at HI
    obtain ⟨k, hk⟩ : ∃ k, es.findIdx (isIdB id) = k := ⟨_, rfl⟩
    rw [hk] at hx HI q2
    obtain ⟨la', lc', e0, hm⟩ := hEW
    cases e0
    obtain ⟨b, o, rfl, hlt, hc⟩ := hm (by omega)
    obtain ⟨lv, c1, c2, hps⟩ := hc k x hx
    have hxf := hfe x (List.mem_of_getElem? hx)
    obtain ⟨sa, sc, hlv⟩ : ∃ sa sc, lv = .slice sa x.2.length sc := by obtain ⟨sa, sc, h, _⟩ := hps; exact ⟨_, _, h⟩
    subst hlv
    have hkk : o + k * 2 = o + 2 * k := by omega
    have hcast : (k : Int) < (es.length : Int) := by omega
    have hG : getL es id nm = match x.2[x.2.findIdx (isNmB nm)]? with
      | none => (⟨#[]⟩, false)
      | some p => (p.2, true) := by unfold getL; rw [hk, hx]
    have hEs : ∀ V, Below W.heap.size W V → V.cell? ⟨b, o + 2 * k + 1, none⟩ = some (.slice sa x.2.length sc) := fun V hV => (hV.cell (p := ⟨b, _, none⟩) hlt).trans c2
    have HN := Lib.hid (fun V (hV : Below W.heap.size W V) => idx_name nm (w.heap.size + 1 + 1) x.2 (.slice sa x.2.length sc) V (hps.below hV) hxf.2.1 (Nat.lt_of_lt_of_le zW hV.size) ((hV.cell (p := ⟨_, 0, none⟩) zW).trans cN))
    have HE8 := Lib.hid (fun V (hV : Below W.heap.size W V) => (hV.cell (p := ⟨w.heap.size, 8, none⟩) (show w.heap.size < W.heap.size by omega)).trans cE)
    have HEs := Lib.hid hEs
    clear hEs hc hm hE c1 c2 hfe hfit q1
    cases hy : x.2[x.2.findIdx (isNmB nm)]? with
    | none =>
      rw [hy] at hG
      simp only at hG
      rw [hG]
      rw [fstI_miss hy] at HN
      subst hW
      clear cE cI cN hy hG hx hps hxf
      go_enter Tryz.func13, Tryz.ntmps13
      go_wp2_with fail
      refine HI.out.mono ?_
      rintro r w2 ⟨rfl, hb2⟩
      have B2 := hB.trans (hb2.mono hB.size)
      have s1 := HE8.out _ hb2
      have s2 := HEs.out _ hb2
      have HN2 := Lib.hid (HN.out _ hb2)
      clear hb2
      go_wp2_with fail
      refine HN2.out.mono ?_
      rintro r w3 ⟨rfl, hb3⟩
      have B3 := B2.trans (hb3.mono B2.size)
      go_wp2
      go_ret2
      exact ⟨rfl, B3⟩
    | some p =>
      rw [hy] at hG
      simp only at hG
      rw [hG]
      obtain ⟨r1, r2⟩ := fstI_hit hy
      rw [r1] at HN
      obtain ⟨j, hj⟩ : ∃ j, x.2.findIdx (isNmB nm) = j := ⟨_, rfl⟩
      rw [hj] at hy HN r2
      obtain ⟨sa', sc', e0, hm⟩ := hps
      cases e0
      obtain ⟨b2, o2, rfl, hlt2, hc2⟩ := hm (by omega)
      obtain ⟨_, c3⟩ := hc2 j p hy
      have HP := Lib.hid (fun V (hV : Below W.heap.size W V) => (hV.cell (p := ⟨b2, o2 + 2 * j + 1, none⟩) hlt2).trans c3)
      have hjj : o2 + j * 2 = o2 + 2 * j := by omega
      have hcast2 : (j : Int) < (x.2.length : Int) := by omega
      subst hW
      clear cE cI cN hy hG hx hxf hm hc2 c3 r1
      go_enter Tryz.func13, Tryz.ntmps13
      go_wp2_with fail
      refine HI.out.mono ?_
      rintro r w2 ⟨rfl, hb2⟩
      have B2 := hB.trans (hb2.mono hB.size)
      have s1 := HE8.out _ hb2
      have s2 := HEs.out _ hb2
      have HN2 := Lib.hid (HN.out _ hb2)
      go_wp2_with fail
      refine HN2.out.mono ?_
      rintro r w3 ⟨rfl, hb3⟩
      have B3 := B2.trans (hb3.mono B2.size)
      have s3 := HP.out _ (hb2.trans (hb3.mono hb2.size))
      clear hb2 hb3 s1 s2
      go_wp2
      go_ret2
      exact ⟨rfl, B3⟩
end Go.Proofs.YtnaijahhogndjaaGreatDoor
