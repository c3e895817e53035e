/- The texts Right, SameBase, Get, RefGet, one behind the other. -/
import Derived.Test.YtnaijahhogndjaaGreatDoorPG6
import Derived.Laws.StructEq
import Derived.BigQuiet
import Derived.Deep.QuietTactic
/- Which messages are right. Conditions: the tables stand; sizes. -/
namespace Go.Proofs.YtnaijahhogndjaaGreatDoor
open Go.ChangeShapes Go.WideShapes Go.ChangeAt Go.RowKit
open Go.Proofs.YtnaijahhogndjaaGreatDoor.Cal (clamp DateIs rightB nanosI)

/-- A message, as the law's argument holds it. -/
structure Ev where
  grave : Int
  from' : Int
  timed : Bool
  at' : Int
  host : ByteArray
  app : ByteArray
  proc : ByteArray
  id : ByteArray
  data : List Elm
  text : ByteArray
abbrev Ev.val (e : Ev) (dv : Value) : Value := .agg #[.int .i64 e.grave, .int .i64 e.from', .bool e.timed, .int .i64 e.at', .string e.host, .string e.app, .string e.proc, .string e.id, dv, .string e.text]
/-- The message lies in this world; its parts have sizes that a machine holds. -/
structure Ev.In (e : Ev) (w : World) (dv : Value) : Prop where
  data : ElmsAt w dv e.data
  fits : ElmsFit e.data
  host : e.host.size ≤ 140737488355328
  app : e.app.size ≤ 140737488355328
  proc : e.proc.size ≤ 140737488355328
  id : e.id.size ≤ 140737488355328
  text : e.text.size ≤ 140737488355328
theorem Ev.In.below {e : Ev} {w w' : World} {dv : Value} (h : e.In w dv) (hb : Below w.heap.size w w') : e.In w' dv :=
  ⟨h.data.below hb, h.fits, h.host, h.app, h.proc, h.id, h.text⟩
theorem ElmsAt.shape {w : World} {dv : Value} {es : List Elm} (h : ElmsAt w dv es) : ∃ a c, dv = .slice a es.length c := by
  obtain ⟨a, c, h, _⟩ := h
  exact ⟨a, c, h⟩

def timeB (timed : Bool) (a : Int) : Bool := if timed = true then decide (clamp a - clamp a % 1000 = a) else decide (a = 0)
def wordsB (e : Ev) : Bool := wordB e.host.data.toList 255 && (wordB e.app.data.toList 48 && (wordB e.proc.data.toList 128 && wordB e.id.data.toList 32))
def rightE (e : Ev) : Int :=
  if ¬ ((0 ≤ e.grave ∧ e.grave ≤ 7) ∧ (0 ≤ e.from' ∧ e.from' ≤ 23) ∧ timeB e.timed e.at' = true) then 1
  else if ¬ (wordsB e = true ∧ dataB e.data = true ∧ Lib.validD e.text.data.toList = true) then 3
  else if 64 < e.data.length ∨ e.data.any longB = true then 4
  else 0

set_option maxRecDepth 100000 in
theorem time_any (e : Ev) (dv : Value) (w : World) (hS : Std w) (h : ∃ a n c, dv = .slice a n c) :
    Calls Tryz.prog 41 #[e.val dv] w fun r w' => r = .returned (.bool (timeB e.timed e.at')) ∧ Below w.heap.size w w' := by
  obtain ⟨la, ln, lc, rfl⟩ := h
  obtain ⟨g, f, t, a, ho, ap, pr, id, da, tx⟩ := e
  have hb : ∀ tt, Below w.heap.size w (w.alloc (.cells #[.int .i64 g, .int .i64 f, .bool tt, .int .i64 a, .string ho, .string ap, .string pr, .string id, .slice la ln lc, .string tx] 24)) := fun _ => (Below.refl _ _).alloc (Nat.le_refl _) _
  have hS1 := fun tt => hS.below (hb tt)
  unfold timeB
  show Calls _ _ _ _ fun r w' => r = .returned (.bool (if t = true then decide (clamp a - clamp a % 1000 = a) else decide (a = 0))) ∧ _
  cases t with
  | false =>
    have hB := hb false
    clear hb hS1
    rw [if_neg (by decide)]
    have hq : (a == 0) = decide (a = 0) := by rw [Bool.eq_iff_iff, beq_iff_eq, decide_eq_true_iff]
    go_enter Tryz.func41, Tryz.ntmps41
    go_wp2
    go_ret
    exact ⟨rfl, hB⟩
  | true =>
    have hB := hb true
    have hT := (hS1 true).1
    rw [if_pos rfl]
    clear hb hS1
    go_enter Tryz.func41, Tryz.ntmps41
    go_wp2_with fail
    refine (Cal.date_any a _ hT).mono ?_
    rintro r w2 ⟨y, m, d, hh, i, s, k, rfl, hD, hb2⟩
    have B2 := hB.trans (hb2.mono hB.size)
    have hT2 := hT.below hb2
    obtain ⟨hc2, hf2⟩ := bcell hb2
    have hz2 : w.heap.size < w2.heap.size := by have := hb2.size; simp at this; omega
    have HD := Lib.hid hD
    clear hb2 hD
    go_wp2_with fail
    refine (Cal.nanos_yes y m d hh i s k 0 w2 hT2 (HD.out).1).mono ?_
    rintro r w3 ⟨rfl, hb3⟩
    obtain ⟨hc3, hf3⟩ := bcell hb3
    have B3 := B2.trans (hb3.mono B2.size)
    have HN := Lib.hid (HD.out).2
    generalize nanosI y m d hh i s k 0 = N at HN ⊢
    have hq : (N == a) = decide (N = a) := by rw [Bool.eq_iff_iff, beq_iff_eq, decide_eq_true_iff]
    go_wp2
    go_ret
    exact ⟨by rw [← HN.out]; rfl, B3⟩
theorem word_t {s : ByteArray} {most : Int} {b : Bool} {w : World} (h : wordB s.data.toList most = b) (hs : s.size ≤ 140737488355328) :
    Calls Tryz.prog 72 #[.string s, .int .i64 most] w fun e w' => e = .returned (.bool b) ∧ w' = w := by
  rw [← h]; exact word_any s most w (by omega)
set_option maxRecDepth 100000 in
theorem words_any (e : Ev) (dv : Value) (w : World) (h : e.In w dv) :
    Calls Tryz.prog 42 #[e.val dv] w fun r w' => r = .returned (.bool (wordsB e)) ∧ Below w.heap.size w w' := by
  obtain ⟨la, lc, hdv⟩ := h.data.shape
  obtain ⟨hd, hf, h1, h2, h3, h4, h5⟩ := h
  obtain ⟨g, f, t, a, ho, ap, pr, id, da, tx⟩ := e
  subst hdv
  have hB : Below w.heap.size w (w.alloc (.cells #[.int .i64 g, .int .i64 f, .bool t, .int .i64 a, .string ho, .string ap, .string pr, .string id, .slice la da.length lc, .string tx] 24)) := (Below.refl _ _).alloc (Nat.le_refl _) _
  unfold wordsB
  show Calls _ _ _ _ fun r w' => r = .returned (.bool (wordB ho.data.toList 255 && (wordB ap.data.toList 48 && (wordB pr.data.toList 128 && wordB id.data.toList 32)))) ∧ _
  simp only at h1 h2 h3 h4
  obtain ⟨b1, hb1⟩ : ∃ b, wordB ho.data.toList 255 = b := ⟨_, rfl⟩
  obtain ⟨b2, hb2⟩ : ∃ b, wordB ap.data.toList 48 = b := ⟨_, rfl⟩
  obtain ⟨b3, hb3⟩ : ∃ b, wordB pr.data.toList 128 = b := ⟨_, rfl⟩
  obtain ⟨b4, hb4⟩ : ∃ b, wordB id.data.toList 32 = b := ⟨_, rfl⟩
  have K1 := Lib.hid hb1
  have K2 := Lib.hid hb2
  have K3 := Lib.hid hb3
  have K4 := Lib.hid hb4
  rw [hb1, hb2, hb3, hb4]
  clear hb1 hb2 hb3 hb4 hd hf h5
  go_enter Tryz.func42, Tryz.ntmps42
  go_wp2_with fail
  refine (word_t K1.out h1).mono ?_
  rintro e w' ⟨rfl, rfl⟩
  cases b1 with
  | false =>
    go_wp2
    go_ret
    exact ⟨rfl, hB⟩
  | true =>
    go_wp2_with fail
    refine (word_t K2.out h2).mono ?_
    rintro e w' ⟨rfl, rfl⟩
    cases b2 with
    | false =>
      go_wp2
      go_ret
      exact ⟨rfl, hB⟩
    | true =>
      go_wp2_with fail
      refine (word_t K3.out h3).mono ?_
      rintro e w' ⟨rfl, rfl⟩
      cases b3 with
      | false =>
        go_wp2
        go_ret
        exact ⟨rfl, hB⟩
      | true =>
        go_wp2_with fail
        refine (word_t K4.out h4).mono ?_
        rintro e w' ⟨rfl, rfl⟩
        go_wp2
        go_ret
        exact ⟨rfl, hB⟩
theorem within_t {n last : Int} {b : Bool} {w : World} (h : decide (0 ≤ n ∧ n ≤ last) = b) : Calls Tryz.prog 40 #[.int .i64 n, .int .i64 last] w fun e w' => e = .returned (.bool b) ∧ w' = w := by
  rw [← h]; exact within_any n last w
set_option maxHeartbeats 1000000 in
set_option maxRecDepth 100000 in
theorem right_any (e : Ev) (dv : Value) (w : World) (hS : Std w) (h : e.In w dv) :
    Calls Tryz.prog 15 #[e.val dv] w fun r w' => r = .returned (.int .i64 (rightE e)) ∧ Below w.heap.size w w' := by
  obtain ⟨la, lc, hdv⟩ := h.data.shape
  obtain ⟨ww, hww⟩ : ∃ ww, (w.alloc (.cells #[.int .i64 e.grave, .int .i64 e.from', .bool e.timed, .int .i64 e.at', .string e.host, .string e.app, .string e.proc, .string e.id, dv, .string e.text] 24)) = ww := ⟨_, rfl⟩
  have hB : Below w.heap.size w ww := by rw [← hww]; exact (Below.refl _ _).alloc (Nat.le_refl _) _
  have hS1 := hS.below hB
  have hI1 := h.below hB
  have HT := Lib.hid (fun W (hW : Std W) => time_any e dv W hW ⟨_, _, _, hdv⟩)
  have HW := Lib.hid (fun W (hW : e.In W dv) => words_any e dv W hW)
  have HDt := Lib.hid (fun W (hW : Std W) (hI : e.In W dv) => data_any e.data dv W hW hI.data hI.fits)
  have HV := Lib.hid (fun W (hW : Std W) => valid_any e.text W (by have := h.text; omega) hW)
  have HL := Lib.hid (fun W (hI : e.In W dv) => any_long e.data dv W hI.data hI.fits.1 (fun x hx => (hI.fits.2 x hx).2.1))
  have HR := Lib.hid (show rightE e = if ¬ ((0 ≤ e.grave ∧ e.grave ≤ 7) ∧ (0 ≤ e.from' ∧ e.from' ≤ 23) ∧ timeB e.timed e.at' = true) then 1
    else if ¬ (wordsB e = true ∧ dataB e.data = true ∧ Lib.validD e.text.data.toList = true) then 3
    else if 64 < e.data.length ∨ e.data.any longB = true then 4 else 0 from rfl)
  have hlen := h.fits.1
  obtain ⟨bt, hbt⟩ : ∃ b, timeB e.timed e.at' = b := ⟨_, rfl⟩
  obtain ⟨bw, hbw⟩ : ∃ b, wordsB e = b := ⟨_, rfl⟩
  obtain ⟨bd, hbd⟩ : ∃ b, dataB e.data = b := ⟨_, rfl⟩
  obtain ⟨bv, hbv⟩ : ∃ b, Lib.validD e.text.data.toList = b := ⟨_, rfl⟩
  obtain ⟨bl, hbl⟩ : ∃ b, e.data.any longB = b := ⟨_, rfl⟩
  rw [hbt] at HT HR
  rw [hbw] at HW HR
  rw [hbd] at HDt HR
  rw [hbv] at HV HR
  rw [hbl] at HL HR
  clear hbt hbw hbd hbv hbl
  generalize rightE e = R at HR ⊢
  obtain ⟨bg, hbg⟩ : ∃ b, decide (0 ≤ e.grave ∧ e.grave ≤ 7) = b := ⟨_, rfl⟩
  obtain ⟨bf, hbf⟩ : ∃ b, decide (0 ≤ e.from' ∧ e.from' ≤ 23) = b := ⟨_, rfl⟩
  have KG := Lib.hid hbg
  have KF := Lib.hid hbf
  have HR2 := Lib.hid (show R = if (bg && (bf && bt)) = false then 1 else if (bw && (bd && bv)) = false then 3 else if 64 < e.data.length ∨ bl = true then 4 else 0 by
    rw [HR.out, ← hbg, ← hbf]
    have q1 : (¬ ((0 ≤ e.grave ∧ e.grave ≤ 7) ∧ (0 ≤ e.from' ∧ e.from' ≤ 23) ∧ bt = true)) = ((decide (0 ≤ e.grave ∧ e.grave ≤ 7) && (decide (0 ≤ e.from' ∧ e.from' ≤ 23) && bt)) = false) := by
      rw [← Bool.not_eq_true]; simp only [Bool.and_eq_true, decide_eq_true_iff]
    have q2 : (¬ (bw = true ∧ bd = true ∧ bv = true)) = ((bw && (bd && bv)) = false) := by
      rw [← Bool.not_eq_true]; simp only [Bool.and_eq_true]
    simp only [q1, q2])
  clear hbg hbf HR
  obtain ⟨g, f, t, a, ho, ap, pr, id, da, tx⟩ := e
  subst hdv
  simp only at hww hlen KG KF HT HW HDt HV HL HR2 ⊢
  clear h
  subst hww
  have hn64 : (64 : Int) < (da.length : Int) ↔ 64 < da.length := by omega
  go_enter Tryz.func15, Tryz.ntmps15
  go_wp2_with fail
  refine (within_t KG.out).mono ?_
  rintro r w' ⟨rfl, rfl⟩
  cases bg with
  | false =>
    have HE := Lib.hid (show R = 1 by have := HR2.out; simpa using this)
    go_wp2
    go_ret
    exact ⟨by rw [HE.out]; rfl, hB⟩
  | true =>
    go_wp2_with fail
    refine (within_t KF.out).mono ?_
    rintro r w' ⟨rfl, rfl⟩
    cases bf with
    | false =>
      have HE := Lib.hid (show R = 1 by have := HR2.out; simpa using this)
      go_wp2
      go_ret
      exact ⟨by rw [HE.out]; rfl, hB⟩
    | true =>
      go_wp2_with fail
      refine (HT.out _ hS1).mono ?_
      rintro r w2 ⟨rfl, hb2⟩
      have B2 := hB.trans (hb2.mono hB.size)
      have hS2 := hS1.below hb2
      have hI2 := hI1.below hb2
      obtain ⟨hc2, hf2⟩ := bcell hb2
      have hz2 : w.heap.size < w2.heap.size := by have := hb2.size; simp at this; omega
      clear hb2
      cases bt with
      | false =>
        have HE := Lib.hid (show R = 1 by have := HR2.out; simpa using this)
        go_wp2
        go_ret
        exact ⟨by rw [HE.out]; rfl, B2⟩
      | true =>
        go_wp2_with fail
        refine (HW.out _ hI2).mono ?_
        rintro r w3 ⟨rfl, hb3⟩
        have B3 := B2.trans (hb3.mono B2.size)
        have hS3 := hS2.below hb3
        have hI3 := hI2.below hb3
        obtain ⟨hc3, hf3⟩ := bcell hb3
        have hz3 : w.heap.size < w3.heap.size := Nat.lt_of_lt_of_le hz2 hb3.size
        cases bw with
        | false =>
          have HE := Lib.hid (show R = 3 by have := HR2.out; simpa using this)
          go_wp2
          go_ret
          exact ⟨by rw [HE.out]; rfl, B3⟩
        | true =>
          go_wp2_with fail
          refine (HDt.out _ hS3 hI3).mono ?_
          rintro r w4 ⟨rfl, hb4⟩
          have B4 := B3.trans (hb4.mono B3.size)
          have hS4 := hS3.below hb4
          have hI4 := hI3.below hb4
          obtain ⟨hc4, hf4⟩ := bcell hb4
          have hz4 : w.heap.size < w4.heap.size := Nat.lt_of_lt_of_le hz3 hb4.size
          cases bd with
          | false =>
            have HE := Lib.hid (show R = 3 by have := HR2.out; simpa using this)
            go_wp2
            go_ret
            exact ⟨by rw [HE.out]; rfl, B4⟩
          | true =>
            go_wp2_with fail
            refine (HV.out _ hS4).mono ?_
            rintro r w5 ⟨rfl, hb5⟩
            have B5 := B4.trans (hb5.mono B4.size)
            have hI5 := hI4.below hb5
            obtain ⟨hc5, hf5⟩ := bcell hb5
            have hz5 : w.heap.size < w5.heap.size := Nat.lt_of_lt_of_le hz4 hb5.size
            cases bv with
            | false =>
              have HE := Lib.hid (show R = 3 by have := HR2.out; simpa using this)
              go_wp2
              go_ret
              exact ⟨by rw [HE.out]; rfl, B5⟩
            | true =>
              by_cases hl : 64 < da.length
              · have hl64 : (64 : Int) < (da.length : Int) := by omega
                have HE := Lib.hid (show R = 4 by have := HR2.out; simpa [hl] using this)
                clear hl hn64
                go_wp2
                go_ret
                exact ⟨by rw [HE.out]; rfl, B5⟩
              · have hl64 : ¬ (64 : Int) < (da.length : Int) := by omega
                have HR3 := Lib.hid (show R = if bl = true then 4 else 0 by have := HR2.out; simpa [hl] using this)
                clear hl hn64
                go_wp2_with fail
                refine (HL.out _ hI5).mono ?_
                rintro r w6 ⟨rfl, hb6⟩
                have B6 := B5.trans (hb6.mono B5.size)
                cases bl with
                | false =>
                  have HE := Lib.hid (show R = 0 from HR3.out)
                  go_wp2
                  go_ret
                  exact ⟨by rw [HE.out]; rfl, B6⟩
                | true =>
                  have HE := Lib.hid (show R = 4 from HR3.out)
                  go_wp2
                  go_ret
                  exact ⟨by rw [HE.out]; rfl, B6⟩
end Go.Proofs.YtnaijahhogndjaaGreatDoor
/- What sysl.Get answers: the value of the first parameter of that name of the first element of that Id. Conditions: sizes. -/
namespace Go.Proofs.YtnaijahhogndjaaGreatDoor
open Go.ChangeShapes Go.WideShapes Go.ChangeAt Go.RowKit

def getL (es : List Elm) (id nm : ByteArray) : ByteArray × Bool :=
  match es[es.findIdx (isIdB id)]? with
  | none => (⟨#[]⟩, false)
  | some x => match x.2[x.2.findIdx (isNmB nm)]? with
    | none => (⟨#[]⟩, false)
    | some p => (p.2, true)
theorem fstI_miss {α : Type} {p : α → Bool} {l : List α} (h : l[l.findIdx p]? = none) : fstI p l = -1 := by
  unfold fstI
  rw [List.getElem?_eq_none_iff] at h
  rw [if_neg (by omega)]
theorem fstI_hit {α : Type} {p : α → Bool} {l : List α} {x : α} (h : l[l.findIdx p]? = some x) : fstI p l = (l.findIdx p : Int) ∧ l.findIdx p < l.length := by
  obtain ⟨h1, _⟩ := List.getElem?_eq_some_iff.1 h
  unfold fstI
  exact ⟨if_pos h1, h1⟩
set_option maxHeartbeats 2000000 in
set_option maxRecDepth 100000 in
theorem get_any {g f a : Int} {t : Bool} {ho ap pr eid tx : ByteArray} (es : List Elm) (la : Option Addr) (lc : Nat) (id nm : ByteArray) (w : World) (hE : ElmsAt w (.slice la es.length lc) es) (hfit : ElmsFit es) :
    Calls Tryz.prog 13 #[.agg #[.int .i64 g, .int .i64 f, .bool t, .int .i64 a, .string ho, .string ap, .string pr, .string eid, .slice la es.length lc, .string tx], .string id, .string nm] w
      fun e w' => e = .returned (.tuple #[.string (getL es id nm).1, .bool (getL es id nm).2]) ∧ Below w.heap.size w w' := by
  have hlen : es.length ≤ 17592186044416 := hfit.1
  have hfe := hfit.2
  obtain ⟨W, hW⟩ : ∃ W, (((w.alloc (.cells #[.int .i64 g, .int .i64 f, .bool t, .int .i64 a, .string ho, .string ap, .string pr, .string eid, .slice la es.length lc, .string tx] 24)).alloc (.cells #[.string id] 9)).alloc (.cells #[.string nm] 9)) = W := ⟨_, rfl⟩
  have hB : Below w.heap.size w W := by rw [← hW]; exact (((Below.refl _ _).alloc (Nat.le_refl _) _).alloc (by simp) _).alloc (by simp <;> omega) _
  have cE : W.cell? ⟨w.heap.size, 8, none⟩ = some (.slice la es.length lc) := by rw [← hW]; simp [go_sem]
  have cI : W.cell? ⟨w.heap.size + 1, 0, none⟩ = some (.string id) := by rw [← hW]; simp [go_sem]
  have cN : W.cell? ⟨w.heap.size + 1 + 1, 0, none⟩ = some (.string nm) := by rw [← hW]; simp [go_sem]
  have zW : w.heap.size + 1 + 1 < W.heap.size := by rw [← hW]; simp <;> omega
  have HI := Lib.hid (idx_id id (w.heap.size + 1) es (.slice la es.length lc) W (hE.below hB) hlen (by omega) cI)
  have hEW := hE.below hB
  cases hx : es[es.findIdx (isIdB id)]? with
  | none =>
    have e1 : getL es id nm = (⟨#[]⟩, false) := by unfold getL; rw [hx]
    rw [e1]
    rw [fstI_miss hx] at HI
    subst hW
    clear hE hEW hfit hfe hx e1 cE cI cN
    go_enter Tryz.func13, Tryz.ntmps13
    go_wp2_with fail
    refine HI.out.mono ?_
    rintro r w2 ⟨rfl, hb2⟩
    have B2 := hB.trans (hb2.mono hB.size)
    go_wp2
    go_ret2
    exact ⟨rfl, B2⟩
  | some x =>
    obtain ⟨q1, q2⟩ := fstI_hit hx
    rw [q1] at HI
    obtain ⟨k, hk⟩ : ∃ k, es.findIdx (isIdB id) = k := ⟨_, rfl⟩
    rw [hk] at hx HI q2
    obtain ⟨la', lc', e0, hm⟩ := hEW
    cases e0
    obtain ⟨b, o, rfl, hlt, hc⟩ := hm (by omega)
    obtain ⟨lv, c1, c2, hps⟩ := hc k x hx
    have hxf := hfe x (List.mem_of_getElem? hx)
    obtain ⟨sa, sc, hlv⟩ : ∃ sa sc, lv = .slice sa x.2.length sc := by obtain ⟨sa, sc, h, _⟩ := hps; exact ⟨_, _, h⟩
    subst hlv
    have hkk : o + k * 2 = o + 2 * k := by omega
    have hcast : (k : Int) < (es.length : Int) := by omega
    have hG : getL es id nm = match x.2[x.2.findIdx (isNmB nm)]? with
      | none => (⟨#[]⟩, false)
      | some p => (p.2, true) := by unfold getL; rw [hk, hx]
    have hEs : ∀ V, Below W.heap.size W V → V.cell? ⟨b, o + 2 * k + 1, none⟩ = some (.slice sa x.2.length sc) := fun V hV => (hV.cell (p := ⟨b, _, none⟩) hlt).trans c2
    have HN := Lib.hid (fun V (hV : Below W.heap.size W V) => idx_name nm (w.heap.size + 1 + 1) x.2 (.slice sa x.2.length sc) V (hps.below hV) hxf.2.1 (Nat.lt_of_lt_of_le zW hV.size) ((hV.cell (p := ⟨_, 0, none⟩) zW).trans cN))
    have HE8 := Lib.hid (fun V (hV : Below W.heap.size W V) => (hV.cell (p := ⟨w.heap.size, 8, none⟩) (show w.heap.size < W.heap.size by omega)).trans cE)
    have HEs := Lib.hid hEs
    clear hEs hc hm hE c1 c2 hfe hfit q1
    cases hy : x.2[x.2.findIdx (isNmB nm)]? with
    | none =>
      rw [hy] at hG
      simp only at hG
      rw [hG]
      rw [fstI_miss hy] at HN
      subst hW
      clear cE cI cN hy hG hx hps hxf
      go_enter Tryz.func13, Tryz.ntmps13
      go_wp2_with fail
      refine HI.out.mono ?_
      rintro r w2 ⟨rfl, hb2⟩
      have B2 := hB.trans (hb2.mono hB.size)
      have s1 := HE8.out _ hb2
      have s2 := HEs.out _ hb2
      have HN2 := Lib.hid (HN.out _ hb2)
      clear hb2
      go_wp2_with fail
      refine HN2.out.mono ?_
      rintro r w3 ⟨rfl, hb3⟩
      have B3 := B2.trans (hb3.mono B2.size)
      go_wp2
      go_ret2
      exact ⟨rfl, B3⟩
    | some p =>
      rw [hy] at hG
      simp only at hG
      rw [hG]
      obtain ⟨r1, r2⟩ := fstI_hit hy
      rw [r1] at HN
      obtain ⟨j, hj⟩ : ∃ j, x.2.findIdx (isNmB nm) = j := ⟨_, rfl⟩
      rw [hj] at hy HN r2
      obtain ⟨sa', sc', e0, hm⟩ := hps
      cases e0
      obtain ⟨b2, o2, rfl, hlt2, hc2⟩ := hm (by omega)
      obtain ⟨_, c3⟩ := hc2 j p hy
      have HP := Lib.hid (fun V (hV : Below W.heap.size W V) => (hV.cell (p := ⟨b2, o2 + 2 * j + 1, none⟩) hlt2).trans c3)
      have hjj : o2 + j * 2 = o2 + 2 * j := by omega
      have hcast2 : (j : Int) < (x.2.length : Int) := by omega
      subst hW
      clear cE cI cN hy hG hx hxf hm hc2 c3 r1
      go_enter Tryz.func13, Tryz.ntmps13
      go_wp2_with fail
      refine HI.out.mono ?_
      rintro r w2 ⟨rfl, hb2⟩
      have B2 := hB.trans (hb2.mono hB.size)
      have s1 := HE8.out _ hb2
      have s2 := HEs.out _ hb2
      have HN2 := Lib.hid (HN.out _ hb2)
      go_wp2_with fail
      refine HN2.out.mono ?_
      rintro r w3 ⟨rfl, hb3⟩
      have B3 := B2.trans (hb3.mono B2.size)
      have s3 := HP.out _ (hb2.trans (hb3.mono hb2.size))
      clear hb2 hb3 s1 s2
      go_wp2
      go_ret2
      exact ⟨rfl, B3⟩
end Go.Proofs.YtnaijahhogndjaaGreatDoor
/- Small laws for the document's own Same. -/
namespace Go.Proofs.YtnaijahhogndjaaGreatDoor
open Go.ChangeShapes Go.WideShapes Go.ChangeAt Go.RowKit

theorem toList_same (s : ByteArray) : (s.toList == s.toList) = true := beq_self_eq_true _
theorem toList_other {s t : ByteArray} (h : s ≠ t) : (s.toList == t.toList) = false := by rw [eq_text]; exact decide_eq_false h
theorem drewN_b (w : World) (n : Nat) : Below w.heap.size w (w.drewN n) := ⟨rfl, rfl, rfl, Nat.le_refl _, fun _ _ => rfl⟩
end Go.Proofs.YtnaijahhogndjaaGreatDoor
/- What the document's own Get answers: the value of the first parameter of that name of the first element of that Id. Conditions: sizes. -/
namespace Go.Proofs.YtnaijahhogndjaaGreatDoor
open Go.ChangeShapes Go.WideShapes Go.ChangeAt Go.RowKit

theorem findIdx_hit {α : Type} {p : α → Bool} {l : List α} {k : Nat} {x : α} (hx : l[k]? = some x) (hp : p x = true) (hn : ∀ y ∈ l.take k, p y = false) : l.findIdx p = k := by
  obtain ⟨h1, h2⟩ := List.getElem?_eq_some_iff.1 hx
  rw [List.findIdx_eq h1]
  refine ⟨by rw [h2]; exact hp, fun j hj => hn _ ?_⟩
  rw [List.mem_take_iff_getElem]
  exact ⟨j, by omega, rfl⟩
theorem findIdx_none {α : Type} {p : α → Bool} {l : List α} (hn : ∀ y ∈ l.take l.length, p y = false) : l[l.findIdx p]? = none := by
  rw [List.take_length] at hn
  rw [List.findIdx_eq_length.2 hn]
  exact List.getElem?_eq_none (Nat.le_refl _)
theorem take_next {α : Type} {p : α → Bool} {l : List α} {k : Nat} {x : α} (hx : l[k]? = some x) (hp : p x = false) (hn : ∀ y ∈ l.take k, p y = false) : ∀ y ∈ l.take (k + 1), p y = false := by
  obtain ⟨h1, h2⟩ := List.getElem?_eq_some_iff.1 hx
  intro y hy
  rw [List.take_succ_eq_append_getElem h1, List.mem_append, List.mem_singleton] at hy
  rcases hy with hy | hy
  · exact hn y hy
  · rw [hy, h2]; exact hp
/-- What Get's worlds hold of its event. -/
abbrev OneS (w0 : World) (va : Value) (W : World) : Prop := Below w0.heap.size w0 W ∧ W.cell? ⟨w0.heap.size, 8, none⟩ = some va
set_option maxHeartbeats 8000000 in
set_option maxRecDepth 100000 in
theorem refGet_any {g f a : Int} {t : Bool} {ho ap pr eid tx : ByteArray} (es : List Elm) (la : Option Addr) (lc : Nat) (id nm : ByteArray) (w : World) (hE : ElmsAt w (.slice la es.length lc) es) (hfit : ElmsFit es) :
    Calls Tryz.prog 14 #[.agg #[.int .i64 g, .int .i64 f, .bool t, .int .i64 a, .string ho, .string ap, .string pr, .string eid, .slice la es.length lc, .string tx], .string id, .string nm] w
      fun e w' => e = .returned (.tuple #[.string (getL es id nm).1, .bool (getL es id nm).2]) ∧ Below w.heap.size w w' := by
  have hda : es.length ≤ 17592186044416 := hfit.1
  have HFIT := Lib.hid hfit.2
  have hb0 : ∀ o1 : Obj, Below w.heap.size w (w.alloc o1) := fun _ => (Below.refl _ _).alloc (Nat.le_refl _) _
  have hS0 : OneS w (.slice la es.length lc) (w.alloc (.cells #[.int .i64 g, .int .i64 f, .bool t, .int .i64 a, .string ho, .string ap, .string pr, .string eid, .slice la es.length lc, .string tx] 24)) := ⟨hb0 _, by simp [go_sem]⟩
  have HS0 := Lib.hid hS0
  have HE := Lib.hid hE
  clear hS0 hb0 hE
  go_enter Tryz.func14, Tryz.ntmps14
  go_wp2
  go_loopw [8] (fun i wr => ∃ k : Nat, k ≤ es.length ∧ i = .int .i64 k ∧ Hid (∀ y ∈ es.take k, isIdB id y = false) ∧ OneS w (.slice la es.length lc) wr) (fun i _ => es.length - (intOf i).toNat)
  case atStart => exact ⟨0, Nat.zero_le _, rfl, Lib.hid (fun y hy => by simp at hy), HS0.out⟩
  case round =>
    obtain ⟨k, hk, rfl, HT, hBw, k8⟩ := hrel
    by_cases hlt : k < es.length
    · obtain ⟨x, hx⟩ : ∃ x, es[k]? = some x := ⟨es[k]'hlt, List.getElem?_eq_getElem _⟩
      obtain ⟨la', ca', e0, hma⟩ := HE.out
      cases e0
      obtain ⟨b1, o1, rfl, hl1, hc1⟩ := hma (by omega)
      obtain ⟨v1, c1, c2, hp1⟩ := hc1 k x hx
      obtain ⟨s1, n1, rfl, hq1⟩ := hp1
      rw [Nat.mul_comm 2 k] at c1 c2
      have d1 : wr.cell? _ = _ := (hBw.cell (p := ⟨b1, o1 + k * 2, none⟩) hl1).trans c1
      have d2 : wr.cell? _ = _ := (hBw.cell (p := ⟨b1, o1 + k * 2 + 1, none⟩) hl1).trans c2
      have z2 : ∀ W, Below w.heap.size w W → W.cell? ⟨b1, o1 + k * 2 + 1, none⟩ = some (.slice s1 x.2.length n1) := fun W hW => (hW.cell (p := ⟨b1, o1 + k * 2 + 1, none⟩) hl1).trans c2
      have Z2 := Lib.hid z2
      have HX := Lib.hid hx
      have HBw := Lib.hid (show OneS w (.slice (some ⟨b1, o1, none⟩) es.length lc) wr from ⟨hBw, k8⟩)
      have hxl : x.2.length ≤ 17592186044416 := (HFIT.out x (List.mem_of_getElem? hx)).2.1
      clear hma hc1 c1 c2 hx hBw z2
      by_cases hid : x.1 = id
      case neg =>
        have hf : isIdB id x = false := decide_eq_false hid
        have HN := Lib.hid (take_next HX.out hf HT.out)
        have q1 := toList_other hid
        clear hf hid
        go_wp2
        go_roundw
        case rel => exact ⟨k + 1, by omega, by go_num, HN, HBw.out⟩
        case measure => simp [intOf]; omega
      case pos =>
        have hf : isIdB id x = true := decide_eq_true hid
        have hG : getL es id nm = match x.2[x.2.findIdx (isNmB nm)]? with
          | none => (⟨#[]⟩, false)
          | some p => (p.2, true) := by unfold getL; rw [findIdx_hit HX.out hf HT.out, HX.out] <;> rfl
        have HG := Lib.hid hG
        have q1 : (x.1.toList == id.toList) = true := by rw [hid]; exact toList_same _
        clear hf hid hG
        go_wp2
        clear d1 d2
        go_loopw [9] (fun j wy => ∃ m : Nat, m ≤ x.2.length ∧ j = .int .i64 m ∧ Hid (∀ y ∈ x.2.take m, isNmB nm y = false) ∧ OneS w (.slice (some ⟨b1, o1, none⟩) es.length lc) wy) (fun j _ => x.2.length - (intOf j).toNat)
        case atStart => exact ⟨0, Nat.zero_le _, rfl, Lib.hid (fun y hy => by simp at hy), HBw.out⟩
        case round =>
          obtain ⟨m, hm, rfl, HM, hBy, k8⟩ := hrel
          have c2 := Z2.out _ hBy
          by_cases hmt : m < x.2.length
          · obtain ⟨p, hp⟩ : ∃ p, x.2[m]? = some p := ⟨x.2[m]'hmt, List.getElem?_eq_getElem _⟩
            obtain ⟨pb1, po1, hs1, pl1, pc1⟩ := hq1 (by omega)
            subst hs1
            have p1 := (hBy.cell (p := ⟨pb1, po1 + 2 * m, none⟩) pl1).trans (pc1 m p hp).1
            have p2 := (hBy.cell (p := ⟨pb1, po1 + 2 * m + 1, none⟩) pl1).trans (pc1 m p hp).2
            rw [Nat.mul_comm 2 m] at p1 p2
            have HPm := Lib.hid hp
            have HBY := Lib.hid (show OneS w (.slice (some ⟨b1, o1, none⟩) es.length lc) wr from ⟨hBy, k8⟩)
            clear hq1 pc1 hp hBy
            by_cases hpq : p.1 = nm
            case neg =>
              have hf : isNmB nm p = false := decide_eq_false hpq
              have HN := Lib.hid (take_next HPm.out hf HM.out)
              have t1 := toList_other hpq
              clear hpq hf
              go_wp2
              go_roundw
              case rel => exact ⟨m + 1, by omega, by go_num, HN, HBY.out⟩
              case measure => simp [intOf]; omega
            case pos =>
              have hf : isNmB nm p = true := decide_eq_true hpq
              have hA : getL es id nm = (p.2, true) := by rw [HG.out, findIdx_hit HPm.out hf HM.out, HPm.out] <;> rfl
              have HA := Lib.hid hA
              have t1 : (p.1.toList == nm.toList) = true := by rw [hpq]; exact toList_same _
              clear hpq hf hA
              go_wp2
              go_ret2
              exact ⟨by rw [HA.out] <;> rfl, HBY.out.1⟩
          · obtain rfl : m = x.2.length := by omega
            have hA : getL es id nm = (⟨#[]⟩, false) := by rw [HG.out, findIdx_none HM.out] <;> rfl
            have HA := Lib.hid hA
            have HBY := Lib.hid hBy
            clear hA hBy
            go_wp2
            go_ret2
            exact ⟨by rw [HA.out] <;> rfl, HBY.out⟩
    · obtain rfl : k = es.length := by omega
      have hA : getL es id nm = (⟨#[]⟩, false) := by unfold getL; rw [findIdx_none HT.out] <;> rfl
      have HA := Lib.hid hA
      have HBY := Lib.hid hBw
      clear hA hBw
      go_wp2
      go_ret2
      exact ⟨by rw [HA.out] <;> rfl, HBY.out⟩
end Go.Proofs.YtnaijahhogndjaaGreatDoor
