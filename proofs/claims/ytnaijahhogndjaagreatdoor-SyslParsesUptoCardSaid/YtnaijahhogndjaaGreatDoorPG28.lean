/- The texts Same, SameNe, SameNf, SameAny, one behind the other. -/
import Derived.Test.YtnaijahhogndjaaGreatDoorPG7
/- What the document's own Same answers where all plain parts are the same: are the elements? -/
namespace Go.Proofs.YtnaijahhogndjaaGreatDoor
open Go.ChangeShapes Go.WideShapes Go.ChangeAt Go.RowKit

/-- What Same's worlds hold of its two events. -/
abbrev SevS (w0 : World) (va vb : Value) (W : World) : Prop :=
  Below w0.heap.size w0 W ∧ W.cell? ⟨w0.heap.size, 8, none⟩ = some va ∧ W.cell? ⟨w0.heap.size + 1, 8, none⟩ = some vb
set_option maxHeartbeats 8000000 in
set_option maxRecDepth 100000 in
theorem same_data (g f a : Int) (t : Bool) (ho ap pr id tx : ByteArray) (da db : List Elm) (la lb : Option Addr) (ca cb : Nat) (w : World) (hA : ElmsAt w (.slice la da.length ca) da) (hB : ElmsAt w (.slice lb db.length cb) db) (hfit : ElmsFit da) :
    Calls Tryz.prog 22 #[.agg #[.int .i64 g, .int .i64 f, .bool t, .int .i64 a, .string ho, .string ap, .string pr, .string id, .slice la da.length ca, .string tx], .agg #[.int .i64 g, .int .i64 f, .bool t, .int .i64 a, .string ho, .string ap, .string pr, .string id, .slice lb db.length cb, .string tx]] w
      fun e w' => e = .returned (.bool (decide (da = db))) ∧ Below w.heap.size w w' := by
  have hb0 : ∀ o1 o2 : Obj, Below w.heap.size w ((w.alloc o1).alloc o2) := fun _ _ => ((Below.refl _ _).alloc (Nat.le_refl _) _).alloc (by simp) _
  have e1 := toList_same ho
  have e2 := toList_same ap
  have e3 := toList_same pr
  have e4 := toList_same id
  have e5 := toList_same tx
  by_cases hlen : da.length = db.length
  case neg =>
    have hne : (((da.length : Nat) : Int) != ((db.length : Nat) : Int)) = true := by rw [bne, beq_eq_false_iff_ne.2 (by omega)]; rfl
    have hd : decide (da = db) = false := decide_eq_false fun h => hlen (by rw [h])
    rw [hd]
    clear hA hB hlen hd
    go_enter Tryz.func22, Tryz.ntmps22
    go_wp2
    go_ret
    exact ⟨rfl, hb0 _ _⟩
  case pos =>
    rw [← hlen] at hB ⊢
    have HLEN := Lib.hid hlen
    have hda : da.length ≤ 17592186044416 := hfit.1
    have HFIT := Lib.hid hfit.2
    clear hlen
    have hS0 : SevS w (.slice la da.length ca) (.slice lb da.length cb) ((w.alloc (.cells #[.int .i64 g, .int .i64 f, .bool t, .int .i64 a, .string ho, .string ap, .string pr, .string id, .slice la da.length ca, .string tx] 24)).alloc (.cells #[.int .i64 g, .int .i64 f, .bool t, .int .i64 a, .string ho, .string ap, .string pr, .string id, .slice lb da.length cb, .string tx] 24)) :=
      ⟨hb0 _ _, by simp [go_sem], by simp [go_sem]⟩
    have HS0 := Lib.hid hS0
    have HA := Lib.hid hA
    have HB := Lib.hid hB
    clear hS0 hb0 hA hB
    go_enter Tryz.func22, Tryz.ntmps22
    go_wp2
    clear e1 e2 e3 e4 e5
    go_loopw [5] (fun i wr => ∃ k : Nat, k ≤ da.length ∧ i = .int .i64 k ∧ Hid (da.take k = db.take k) ∧ SevS w (.slice la da.length ca) (.slice lb da.length cb) wr) (fun i _ => da.length - (intOf i).toNat)
    case atStart => exact ⟨0, Nat.zero_le _, rfl, Lib.hid rfl, HS0.out⟩
    case round =>
      obtain ⟨k, hk, rfl, HT, hBw, k8, j8⟩ := hrel
      have k8d : wr.drew.cell? ⟨w.heap.size, 8, none⟩ = some (.slice la da.length ca) := k8
      have j8d : wr.drew.cell? ⟨w.heap.size + 1, 8, none⟩ = some (.slice lb da.length cb) := j8
      by_cases hlt : k < da.length
      · obtain ⟨x, hx⟩ : ∃ x, da[k]? = some x := ⟨da[k]'hlt, List.getElem?_eq_getElem _⟩
        obtain ⟨y, hy⟩ : ∃ y, db[k]? = some y := ⟨db[k]'(by rw [← HLEN.out]; exact hlt), List.getElem?_eq_getElem _⟩
        obtain ⟨la', ca', e0, hma⟩ := HA.out
        cases e0
        obtain ⟨b1, o1, rfl, hl1, hc1⟩ := hma (by omega)
        obtain ⟨v1, c1, c2, hp1⟩ := hc1 k x hx
        obtain ⟨s1, n1, rfl, hq1⟩ := hp1
        have HBX : ElmsAt w (.slice lb db.length cb) db := by rw [← HLEN.out]; exact HB.out
        obtain ⟨lb', cb', e0, hmb⟩ := HBX
        have e0' : Value.slice lb db.length cb = Value.slice lb' db.length cb' := e0
        cases e0'
        obtain ⟨b2, o2, rfl, hl2, hc2⟩ := hmb (by rw [← HLEN.out]; omega)
        obtain ⟨v2, f1, f2, hp2⟩ := hc2 k y hy
        obtain ⟨s2, n2, rfl, hq2⟩ := hp2
        rw [Nat.mul_comm 2 k] at c1 c2 f1 f2
        have d1' : wr.cell? _ = _ := (hBw.cell (p := ⟨b1, o1 + k * 2, none⟩) hl1).trans c1
        have d1 : wr.drew.cell? _ = _ := (hBw.cell (p := ⟨b1, o1 + k * 2, none⟩) hl1).trans c1
        have d2' : wr.cell? _ = _ := (hBw.cell (p := ⟨b1, o1 + k * 2 + 1, none⟩) hl1).trans c2
        have d2 : wr.drew.cell? _ = _ := (hBw.cell (p := ⟨b1, o1 + k * 2 + 1, none⟩) hl1).trans c2
        have d3' : wr.cell? _ = _ := (hBw.cell (p := ⟨b2, o2 + k * 2, none⟩) hl2).trans f1
        have d3 : wr.drew.cell? _ = _ := (hBw.cell (p := ⟨b2, o2 + k * 2, none⟩) hl2).trans f1
        have d4' : wr.cell? _ = _ := (hBw.cell (p := ⟨b2, o2 + k * 2 + 1, none⟩) hl2).trans f2
        have d4 : wr.drew.cell? _ = _ := (hBw.cell (p := ⟨b2, o2 + k * 2 + 1, none⟩) hl2).trans f2
        have HX := Lib.hid hx
        have HY := Lib.hid hy
        have HBw := Lib.hid hBw
        clear hma hmb hc1 hc2 c1 c2 f1 f2 hx hy hBw e0
        by_cases hid : x.1 = y.1
        case neg =>
          have q1 := toList_other hid
          have hd : decide (da = db) = false := decide_eq_false fun h => hid (by rw [h] at HX; rw [HY.out] at HX; exact congrArg Prod.fst (Option.some.inj HX.out).symm)
          have HD := Lib.hid hd
          clear hd hid
          go_wp2_with fail
          go_quiet (fail)
          go_wp2
          go_ret
          exact ⟨by rw [HD.out]; rfl, HBw.out.trans ((drewN_b _ _).mono HBw.out.size)⟩
        case pos =>
          obtain ⟨xi, xp⟩ := x
          obtain ⟨yi, yp⟩ := y
          have hid' : xi = yi := hid
          subst hid'
          have q1 := toList_same xi
          clear hid
          by_cases hpl : xp.length = yp.length
          case neg =>
            have hne : (((xp.length : Nat) : Int) != ((yp.length : Nat) : Int)) = true := by rw [bne, beq_eq_false_iff_ne.2 (by omega)]; rfl
            have hd : decide (da = db) = false := decide_eq_false fun h => hpl (by rw [h] at HX; rw [HY.out] at HX; exact congrArg (fun e : Elm => e.2.length) (Option.some.inj HX.out).symm)
            have HD := Lib.hid hd
            clear hd hpl
            go_wp2_with fail
            go_quiet (fail)
            go_wp2
            go_ret
            exact ⟨by rw [HD.out]; rfl, HBw.out.trans ((drewN_b _ _).mono HBw.out.size)⟩
          case pos =>
            have hpl' : Value.slice s2 yp.length n2 = Value.slice s2 xp.length n2 := by rw [hpl]
            have d4x : wr.cell? ⟨b2, o2 + k * 2 + 1, none⟩ = some (.slice s2 xp.length n2) := by rw [← hpl']; exact d4'
            have d4y : wr.drew.cell? ⟨b2, o2 + k * 2 + 1, none⟩ = some (.slice s2 xp.length n2) := d4x
            have hSd : ∀ n, SevS w (.slice (some ⟨b1, o1, none⟩) da.length ca) (.slice (some ⟨b2, o2, none⟩) da.length cb) (wr.drewN n) := fun n => ⟨HBw.out.trans ((drewN_b _ _).mono HBw.out.size), k8, j8⟩
            have HSd := Lib.hid hSd
            have z1 : ∀ W, Below w.heap.size w W → W.cell? ⟨b1, o1 + k * 2 + 1, none⟩ = some (.slice s1 xp.length n1) := fun W hW => by
              have e := (hW.cell (p := ⟨b1, o1 + k * 2 + 1, none⟩) hl1).trans ((HBw.out.cell (p := ⟨b1, o1 + k * 2 + 1, none⟩) hl1).symm)
              exact e.trans d2'
            have z2 : ∀ W, Below w.heap.size w W → W.cell? ⟨b2, o2 + k * 2 + 1, none⟩ = some (.slice s2 xp.length n2) := fun W hW => by
              have e := (hW.cell (p := ⟨b2, o2 + k * 2 + 1, none⟩) hl2).trans ((HBw.out.cell (p := ⟨b2, o2 + k * 2 + 1, none⟩) hl2).symm)
              exact e.trans d4x
            have Z1 := Lib.hid z1
            have Z2 := Lib.hid z2
            have HPL := Lib.hid hpl
            have hxl : xp.length ≤ 17592186044416 := (HFIT.out (xi, xp) (List.mem_of_getElem? HX.out)).2.1
            clear hSd z1 z2 d4 d4' hpl hpl'
            go_wp2_with fail
            go_quiet (fail)
            go_wp2
            clear d1 d1' d2 d2' d3 d3' d4x d4y k8 j8 k8d j8d HBw
            go_loopw [6] (fun j wy => ∃ m : Nat, m ≤ xp.length ∧ j = .int .i64 m ∧ Hid (xp.take m = yp.take m) ∧ SevS w (.slice (some ⟨b1, o1, none⟩) da.length ca) (.slice (some ⟨b2, o2, none⟩) da.length cb) wy) (fun j _ => xp.length - (intOf j).toNat)
            case atStart => exact ⟨0, Nat.zero_le _, rfl, Lib.hid rfl, HSd.out _⟩
            case round =>
              obtain ⟨m, hm, rfl, HM, hBy, k8, j8⟩ := hrel
              by_cases hmt : m < xp.length
              · obtain ⟨p, hp⟩ : ∃ p, xp[m]? = some p := ⟨xp[m]'hmt, List.getElem?_eq_getElem _⟩
                obtain ⟨q, hq⟩ : ∃ q, yp[m]? = some q := ⟨yp[m]'(by rw [← HPL.out]; exact hmt), List.getElem?_eq_getElem _⟩
                obtain ⟨pb1, po1, hs1, pl1, pc1⟩ := hq1 (by show 0 < xp.length; omega)
                obtain ⟨pb2, po2, hs2, pl2, pc2⟩ := hq2 (by show 0 < yp.length; rw [← HPL.out]; omega)
                subst hs1
                subst hs2
                have c1 := Z1.out _ hBy
                have c2 := Z2.out _ hBy
                have p1 := (hBy.cell (p := ⟨pb1, po1 + 2 * m, none⟩) pl1).trans (pc1 m p hp).1
                have p2 := (hBy.cell (p := ⟨pb1, po1 + 2 * m + 1, none⟩) pl1).trans (pc1 m p hp).2
                have r1 := (hBy.cell (p := ⟨pb2, po2 + 2 * m, none⟩) pl2).trans (pc2 m q hq).1
                have r2 := (hBy.cell (p := ⟨pb2, po2 + 2 * m + 1, none⟩) pl2).trans (pc2 m q hq).2
                rw [Nat.mul_comm 2 m] at p1 p2 r1 r2
                have HPm := Lib.hid hp
                have HQm := Lib.hid hq
                have HBY := Lib.hid hBy
                clear hq1 hq2 pc1 pc2 hp hq hBy
                by_cases hpq : p = q
                case neg =>
                  have hd : decide (da = db) = false := decide_eq_false fun h => hpq (by
                    rw [h] at HX; rw [HY.out] at HX
                    have e := congrArg (fun e : Elm => e.2) (Option.some.inj HX.out)
                    have e2 : yp = xp := e
                    rw [e2] at HQm
                    rw [HPm.out] at HQm
                    exact Option.some.inj HQm.out)
                  have HD := Lib.hid hd
                  clear hd
                  by_cases ha : p.1 = q.1
                  · have hb : p.2 ≠ q.2 := fun h => hpq (Prod.ext ha h)
                    have t1 : (p.1.toList == q.1.toList) = true := by rw [ha]; exact toList_same _
                    have t2 := toList_other hb
                    clear hpq ha hb
                    go_wp2_with fail
                    go_quiet (fail)
                    go_wp2
                    go_ret
                    exact ⟨by rw [HD.out]; rfl, HBY.out.trans ((drewN_b _ _).mono HBY.out.size)⟩
                  · have t1 := toList_other ha
                    clear hpq ha
                    go_wp2_with fail
                    go_quiet (fail)
                    go_wp2
                    go_ret
                    exact ⟨by rw [HD.out]; rfl, HBY.out.trans ((drewN_b _ _).mono HBY.out.size)⟩
                case pos =>
                  subst hpq
                  have t1 := toList_same p.1
                  have t2 := toList_same p.2
                  have hSd : ∀ n, SevS w (.slice (some ⟨b1, o1, none⟩) da.length ca) (.slice (some ⟨b2, o2, none⟩) da.length cb) (wr.drewN n) := fun n => ⟨HBY.out.trans ((drewN_b _ _).mono HBY.out.size), k8, j8⟩
                  have HSd2 := Lib.hid hSd
                  have htk : xp.take (m + 1) = yp.take (m + 1) := by
                    obtain ⟨h1, e1⟩ := List.getElem?_eq_some_iff.1 HPm.out
                    obtain ⟨h2, e2⟩ := List.getElem?_eq_some_iff.1 HQm.out
                    rw [List.take_succ_eq_append_getElem h1, List.take_succ_eq_append_getElem h2, e1, e2, HM.out]
                  have HTK := Lib.hid htk
                  clear hSd htk
                  go_wp2_with fail
                  go_quiet (fail)
                  go_wp2
                  go_roundw
                  case rel => exact ⟨m + 1, by omega, by go_num, HTK, HSd2.out _⟩
                  case measure => simp [intOf]; omega
              · obtain rfl : m = xp.length := by omega
                have hxy : xp = yp := by
                  have h := HM.out
                  rw [List.take_length, HPL.out, List.take_length] at h
                  exact h
                have htk : da.take (k + 1) = db.take (k + 1) := by
                  obtain ⟨h1, e1⟩ := List.getElem?_eq_some_iff.1 HX.out
                  obtain ⟨h2, e2⟩ := List.getElem?_eq_some_iff.1 HY.out
                  rw [List.take_succ_eq_append_getElem h1, List.take_succ_eq_append_getElem h2, e1, e2, HT.out, hxy]
                have HTK := Lib.hid htk
                have c1 := Z1.out _ hBy
                have HS2 := Lib.hid (show SevS w (.slice (some ⟨b1, o1, none⟩) da.length ca) (.slice (some ⟨b2, o2, none⟩) da.length cb) wr from ⟨hBy, k8, j8⟩)
                clear htk hxy hBy
                go_wp2
                go_roundw
                case rel => exact ⟨k + 1, by omega, by go_num, HTK, HS2.out⟩
                case measure => simp [intOf]; omega
      · obtain rfl : k = da.length := by omega
        have hd : decide (da = db) = true := decide_eq_true (by
          have h := HT.out
          rw [List.take_length, HLEN.out, List.take_length] at h
          exact h)
        have HD := Lib.hid hd
        have HBW := Lib.hid hBw
        clear hd hBw
        go_wp2
        go_ret
        exact ⟨by rw [HD.out]; rfl, HBW.out⟩
end Go.Proofs.YtnaijahhogndjaaGreatDoor
/- What the document's own Same answers where one of the plain parts differs: no. -/
namespace Go.Proofs.YtnaijahhogndjaaGreatDoor
open Go.ChangeShapes Go.WideShapes Go.ChangeAt Go.RowKit

set_option maxHeartbeats 8000000 in
set_option maxRecDepth 100000 in
theorem same_ne0 (g g' : Int) (f f' : Int) (t t' : Bool) (a a' : Int) (ho ho' : ByteArray) (ap ap' : ByteArray) (pr pr' : ByteArray) (id id' : ByteArray) (tx tx' : ByteArray) (la lb : Option Addr) (na nb ca cb : Nat) (w : World) (hne : g ≠ g') :
    Calls Tryz.prog 22 #[.agg #[.int .i64 g, .int .i64 f, .bool t, .int .i64 a, .string ho, .string ap, .string pr, .string id, .slice la na ca, .string tx], .agg #[.int .i64 g', .int .i64 f', .bool t', .int .i64 a', .string ho', .string ap', .string pr', .string id', .slice lb nb cb, .string tx']] w
      fun e w' => e = .returned (.bool false) ∧ Below w.heap.size w w' := by
  have hb0 : ∀ o1 o2 : Obj, Below w.heap.size w ((w.alloc o1).alloc o2) := fun _ _ => ((Below.refl _ _).alloc (Nat.le_refl _) _).alloc (by simp) _
  have q : (g != g') = true := by rw [bne, beq_eq_false_iff_ne.2 hne]; rfl
  clear hne
  go_enter Tryz.func22, Tryz.ntmps22
  go_wp2
  go_ret
  exact ⟨rfl, hb0 _ _⟩
set_option maxHeartbeats 8000000 in
set_option maxRecDepth 100000 in
theorem same_ne1 (g : Int) (f f' : Int) (t t' : Bool) (a a' : Int) (ho ho' : ByteArray) (ap ap' : ByteArray) (pr pr' : ByteArray) (id id' : ByteArray) (tx tx' : ByteArray) (la lb : Option Addr) (na nb ca cb : Nat) (w : World) (hne : f ≠ f') :
    Calls Tryz.prog 22 #[.agg #[.int .i64 g, .int .i64 f, .bool t, .int .i64 a, .string ho, .string ap, .string pr, .string id, .slice la na ca, .string tx], .agg #[.int .i64 g, .int .i64 f', .bool t', .int .i64 a', .string ho', .string ap', .string pr', .string id', .slice lb nb cb, .string tx']] w
      fun e w' => e = .returned (.bool false) ∧ Below w.heap.size w w' := by
  have hb0 : ∀ o1 o2 : Obj, Below w.heap.size w ((w.alloc o1).alloc o2) := fun _ _ => ((Below.refl _ _).alloc (Nat.le_refl _) _).alloc (by simp) _
  have q : (f != f') = true := by rw [bne, beq_eq_false_iff_ne.2 hne]; rfl
  clear hne
  go_enter Tryz.func22, Tryz.ntmps22
  go_wp2
  go_ret
  exact ⟨rfl, hb0 _ _⟩
set_option maxHeartbeats 8000000 in
set_option maxRecDepth 100000 in
theorem same_ne2 (g : Int) (f : Int) (t t' : Bool) (a a' : Int) (ho ho' : ByteArray) (ap ap' : ByteArray) (pr pr' : ByteArray) (id id' : ByteArray) (tx tx' : ByteArray) (la lb : Option Addr) (na nb ca cb : Nat) (w : World) (hne : t ≠ t') :
    Calls Tryz.prog 22 #[.agg #[.int .i64 g, .int .i64 f, .bool t, .int .i64 a, .string ho, .string ap, .string pr, .string id, .slice la na ca, .string tx], .agg #[.int .i64 g, .int .i64 f, .bool t', .int .i64 a', .string ho', .string ap', .string pr', .string id', .slice lb nb cb, .string tx']] w
      fun e w' => e = .returned (.bool false) ∧ Below w.heap.size w w' := by
  have hb0 : ∀ o1 o2 : Obj, Below w.heap.size w ((w.alloc o1).alloc o2) := fun _ _ => ((Below.refl _ _).alloc (Nat.le_refl _) _).alloc (by simp) _
  rcases (show (t = true ∧ t' = false) ∨ (t = false ∧ t' = true) by revert hne; cases t <;> cases t' <;> simp) with ⟨rfl, rfl⟩ | ⟨rfl, rfl⟩
  · clear hne
    go_enter Tryz.func22, Tryz.ntmps22
    go_wp2
    go_ret
    exact ⟨rfl, hb0 _ _⟩
  · clear hne
    go_enter Tryz.func22, Tryz.ntmps22
    go_wp2
    go_ret
    exact ⟨rfl, hb0 _ _⟩
set_option maxHeartbeats 8000000 in
set_option maxRecDepth 100000 in
theorem same_ne3 (g : Int) (f : Int) (t : Bool) (a a' : Int) (ho ho' : ByteArray) (ap ap' : ByteArray) (pr pr' : ByteArray) (id id' : ByteArray) (tx tx' : ByteArray) (la lb : Option Addr) (na nb ca cb : Nat) (w : World) (hne : a ≠ a') :
    Calls Tryz.prog 22 #[.agg #[.int .i64 g, .int .i64 f, .bool t, .int .i64 a, .string ho, .string ap, .string pr, .string id, .slice la na ca, .string tx], .agg #[.int .i64 g, .int .i64 f, .bool t, .int .i64 a', .string ho', .string ap', .string pr', .string id', .slice lb nb cb, .string tx']] w
      fun e w' => e = .returned (.bool false) ∧ Below w.heap.size w w' := by
  have hb0 : ∀ o1 o2 : Obj, Below w.heap.size w ((w.alloc o1).alloc o2) := fun _ _ => ((Below.refl _ _).alloc (Nat.le_refl _) _).alloc (by simp) _
  have q : (a != a') = true := by rw [bne, beq_eq_false_iff_ne.2 hne]; rfl
  clear hne
  go_enter Tryz.func22, Tryz.ntmps22
  go_wp2
  go_ret
  exact ⟨rfl, hb0 _ _⟩
set_option maxHeartbeats 8000000 in
set_option maxRecDepth 100000 in
theorem same_ne4 (g : Int) (f : Int) (t : Bool) (a : Int) (ho ho' : ByteArray) (ap ap' : ByteArray) (pr pr' : ByteArray) (id id' : ByteArray) (tx tx' : ByteArray) (la lb : Option Addr) (na nb ca cb : Nat) (w : World) (hne : ho ≠ ho') :
    Calls Tryz.prog 22 #[.agg #[.int .i64 g, .int .i64 f, .bool t, .int .i64 a, .string ho, .string ap, .string pr, .string id, .slice la na ca, .string tx], .agg #[.int .i64 g, .int .i64 f, .bool t, .int .i64 a, .string ho', .string ap', .string pr', .string id', .slice lb nb cb, .string tx']] w
      fun e w' => e = .returned (.bool false) ∧ Below w.heap.size w w' := by
  have hb0 : ∀ o1 o2 : Obj, Below w.heap.size w ((w.alloc o1).alloc o2) := fun _ _ => ((Below.refl _ _).alloc (Nat.le_refl _) _).alloc (by simp) _
  have q := toList_other hne
  clear hne
  go_enter Tryz.func22, Tryz.ntmps22
  go_wp2
  go_ret
  exact ⟨rfl, hb0 _ _⟩
end Go.Proofs.YtnaijahhogndjaaGreatDoor
/- What the document's own Same answers where one of the plain parts differs: no. -/
namespace Go.Proofs.YtnaijahhogndjaaGreatDoor
open Go.ChangeShapes Go.WideShapes Go.ChangeAt Go.RowKit

set_option maxHeartbeats 8000000 in
set_option maxRecDepth 100000 in
theorem same_ne5 (g : Int) (f : Int) (t : Bool) (a : Int) (ho : ByteArray) (ap ap' : ByteArray) (pr pr' : ByteArray) (id id' : ByteArray) (tx tx' : ByteArray) (la lb : Option Addr) (na nb ca cb : Nat) (w : World) (hne : ap ≠ ap') :
    Calls Tryz.prog 22 #[.agg #[.int .i64 g, .int .i64 f, .bool t, .int .i64 a, .string ho, .string ap, .string pr, .string id, .slice la na ca, .string tx], .agg #[.int .i64 g, .int .i64 f, .bool t, .int .i64 a, .string ho, .string ap', .string pr', .string id', .slice lb nb cb, .string tx']] w
      fun e w' => e = .returned (.bool false) ∧ Below w.heap.size w w' := by
  have hb0 : ∀ o1 o2 : Obj, Below w.heap.size w ((w.alloc o1).alloc o2) := fun _ _ => ((Below.refl _ _).alloc (Nat.le_refl _) _).alloc (by simp) _
  have e4 := toList_same ho
  have q := toList_other hne
  clear hne
  go_enter Tryz.func22, Tryz.ntmps22
  go_wp2
  go_ret
  exact ⟨rfl, hb0 _ _⟩
set_option maxHeartbeats 8000000 in
set_option maxRecDepth 100000 in
theorem same_ne6 (g : Int) (f : Int) (t : Bool) (a : Int) (ho : ByteArray) (ap : ByteArray) (pr pr' : ByteArray) (id id' : ByteArray) (tx tx' : ByteArray) (la lb : Option Addr) (na nb ca cb : Nat) (w : World) (hne : pr ≠ pr') :
    Calls Tryz.prog 22 #[.agg #[.int .i64 g, .int .i64 f, .bool t, .int .i64 a, .string ho, .string ap, .string pr, .string id, .slice la na ca, .string tx], .agg #[.int .i64 g, .int .i64 f, .bool t, .int .i64 a, .string ho, .string ap, .string pr', .string id', .slice lb nb cb, .string tx']] w
      fun e w' => e = .returned (.bool false) ∧ Below w.heap.size w w' := by
  have hb0 : ∀ o1 o2 : Obj, Below w.heap.size w ((w.alloc o1).alloc o2) := fun _ _ => ((Below.refl _ _).alloc (Nat.le_refl _) _).alloc (by simp) _
  have e4 := toList_same ho
  have e5 := toList_same ap
  have q := toList_other hne
  clear hne
  go_enter Tryz.func22, Tryz.ntmps22
  go_wp2
  go_ret
  exact ⟨rfl, hb0 _ _⟩
set_option maxHeartbeats 8000000 in
set_option maxRecDepth 100000 in
theorem same_ne7 (g : Int) (f : Int) (t : Bool) (a : Int) (ho : ByteArray) (ap : ByteArray) (pr : ByteArray) (id id' : ByteArray) (tx tx' : ByteArray) (la lb : Option Addr) (na nb ca cb : Nat) (w : World) (hne : id ≠ id') :
    Calls Tryz.prog 22 #[.agg #[.int .i64 g, .int .i64 f, .bool t, .int .i64 a, .string ho, .string ap, .string pr, .string id, .slice la na ca, .string tx], .agg #[.int .i64 g, .int .i64 f, .bool t, .int .i64 a, .string ho, .string ap, .string pr, .string id', .slice lb nb cb, .string tx']] w
      fun e w' => e = .returned (.bool false) ∧ Below w.heap.size w w' := by
  have hb0 : ∀ o1 o2 : Obj, Below w.heap.size w ((w.alloc o1).alloc o2) := fun _ _ => ((Below.refl _ _).alloc (Nat.le_refl _) _).alloc (by simp) _
  have e4 := toList_same ho
  have e5 := toList_same ap
  have e6 := toList_same pr
  have q := toList_other hne
  clear hne
  go_enter Tryz.func22, Tryz.ntmps22
  go_wp2
  go_ret
  exact ⟨rfl, hb0 _ _⟩
set_option maxHeartbeats 8000000 in
set_option maxRecDepth 100000 in
theorem same_ne8 (g : Int) (f : Int) (t : Bool) (a : Int) (ho : ByteArray) (ap : ByteArray) (pr : ByteArray) (id : ByteArray) (tx tx' : ByteArray) (la lb : Option Addr) (na nb ca cb : Nat) (w : World) (hne : tx ≠ tx') :
    Calls Tryz.prog 22 #[.agg #[.int .i64 g, .int .i64 f, .bool t, .int .i64 a, .string ho, .string ap, .string pr, .string id, .slice la na ca, .string tx], .agg #[.int .i64 g, .int .i64 f, .bool t, .int .i64 a, .string ho, .string ap, .string pr, .string id, .slice lb nb cb, .string tx']] w
      fun e w' => e = .returned (.bool false) ∧ Below w.heap.size w w' := by
  have hb0 : ∀ o1 o2 : Obj, Below w.heap.size w ((w.alloc o1).alloc o2) := fun _ _ => ((Below.refl _ _).alloc (Nat.le_refl _) _).alloc (by simp) _
  have e4 := toList_same ho
  have e5 := toList_same ap
  have e6 := toList_same pr
  have e7 := toList_same id
  have q := toList_other hne
  clear hne
  go_enter Tryz.func22, Tryz.ntmps22
  go_wp2
  go_ret
  exact ⟨rfl, hb0 _ _⟩
end Go.Proofs.YtnaijahhogndjaaGreatDoor
/- What the document's own Same answers: are two events the same? -/
namespace Go.Proofs.YtnaijahhogndjaaGreatDoor
open Go.ChangeShapes Go.WideShapes Go.ChangeAt Go.RowKit

set_option maxRecDepth 100000 in
theorem same_any (x y : Ev) (va vb : Value) (w : World) (hA : ElmsAt w va x.data) (hB : ElmsAt w vb y.data) (hfit : ElmsFit x.data) :
    Calls Tryz.prog 22 #[x.val va, y.val vb] w fun e w' => ∃ b : Bool, e = .returned (.bool b) ∧ (b = true ↔ x = y) ∧ Below w.heap.size w w' := by
  obtain ⟨la, ca, rfl⟩ := hA.shape
  obtain ⟨lb, cb, rfl⟩ := hB.shape
  obtain ⟨g, f, t, a, ho, ap, pr, id, da, tx⟩ := x
  obtain ⟨g', f', t', a', ho', ap', pr', id', db, tx'⟩ := y
  by_cases k0 : g = g'
  case neg => exact (same_ne0 g g' f f' t t' a a' ho ho' ap ap' pr pr' id id' tx tx' la lb _ _ ca cb w k0).mono fun e w' ⟨h1, h2⟩ => ⟨false, h1, ⟨fun h => (by cases h), fun h => absurd (by cases h; rfl) k0⟩, h2⟩
  subst k0
  by_cases k1 : f = f'
  case neg => exact (same_ne1 g f f' t t' a a' ho ho' ap ap' pr pr' id id' tx tx' la lb _ _ ca cb w k1).mono fun e w' ⟨h1, h2⟩ => ⟨false, h1, ⟨fun h => (by cases h), fun h => absurd (by cases h; rfl) k1⟩, h2⟩
  subst k1
  by_cases k2 : t = t'
  case neg => exact (same_ne2 g f t t' a a' ho ho' ap ap' pr pr' id id' tx tx' la lb _ _ ca cb w k2).mono fun e w' ⟨h1, h2⟩ => ⟨false, h1, ⟨fun h => (by cases h), fun h => absurd (by cases h; rfl) k2⟩, h2⟩
  subst k2
  by_cases k3 : a = a'
  case neg => exact (same_ne3 g f t a a' ho ho' ap ap' pr pr' id id' tx tx' la lb _ _ ca cb w k3).mono fun e w' ⟨h1, h2⟩ => ⟨false, h1, ⟨fun h => (by cases h), fun h => absurd (by cases h; rfl) k3⟩, h2⟩
  subst k3
  by_cases k4 : ho = ho'
  case neg => exact (same_ne4 g f t a ho ho' ap ap' pr pr' id id' tx tx' la lb _ _ ca cb w k4).mono fun e w' ⟨h1, h2⟩ => ⟨false, h1, ⟨fun h => (by cases h), fun h => absurd (by cases h; rfl) k4⟩, h2⟩
  subst k4
  by_cases k5 : ap = ap'
  case neg => exact (same_ne5 g f t a ho ap ap' pr pr' id id' tx tx' la lb _ _ ca cb w k5).mono fun e w' ⟨h1, h2⟩ => ⟨false, h1, ⟨fun h => (by cases h), fun h => absurd (by cases h; rfl) k5⟩, h2⟩
  subst k5
  by_cases k6 : pr = pr'
  case neg => exact (same_ne6 g f t a ho ap pr pr' id id' tx tx' la lb _ _ ca cb w k6).mono fun e w' ⟨h1, h2⟩ => ⟨false, h1, ⟨fun h => (by cases h), fun h => absurd (by cases h; rfl) k6⟩, h2⟩
  subst k6
  by_cases k7 : id = id'
  case neg => exact (same_ne7 g f t a ho ap pr id id' tx tx' la lb _ _ ca cb w k7).mono fun e w' ⟨h1, h2⟩ => ⟨false, h1, ⟨fun h => (by cases h), fun h => absurd (by cases h; rfl) k7⟩, h2⟩
  subst k7
  by_cases k8 : tx = tx'
  case neg => exact (same_ne8 g f t a ho ap pr id tx tx' la lb _ _ ca cb w k8).mono fun e w' ⟨h1, h2⟩ => ⟨false, h1, ⟨fun h => (by cases h), fun h => absurd (by cases h; rfl) k8⟩, h2⟩
  subst k8
  refine (same_data g f a t ho ap pr id tx da db la lb ca cb w hA hB hfit).mono fun e w' h => ?_
  obtain ⟨h1, h2⟩ := h
  refine ⟨decide (da = db), h1, ?_, h2⟩
  constructor
  · intro h
    rw [of_decide_eq_true h]
  · intro h
    cases h
    exact decide_eq_true rfl
end Go.Proofs.YtnaijahhogndjaaGreatDoor
