/- The texts Right, SameBase, Get, RefGet, one behind the other. -/
import Derived.Test.YtmmghppjhmdikaaGreatDoorAF6
import Derived.Laws.StructEq
import Derived.BigQuiet
import Derived.Deep.QuietTactic
/- Which messages are right. Conditions: the tables stand; sizes. -/
namespace Go.Proofs.YtmmghppjhmdikaaGreatDoor
open Go.ChangeShapes Go.WideShapes Go.ChangeAt Go.RowKit
open Go.Proofs.YtmmghppjhmdikaaGreatDoor.Cal (clamp DateIs rightB nanosI)

/-- A message, as the law's argument holds it. -/
structure Ev where
  grave : Int
  from' : Int
  timed : Bool
  at' : Int
  host : ByteArray
  app : ByteArray
  proc : ByteArray
  id : ByteArray
  data : List Elm
  text : ByteArray
abbrev Ev.val (e : Ev) (dv : Value) : Value := .agg #[.int .i64 e.grave, .int .i64 e.from', .bool e.timed, .int .i64 e.at', .string e.host, .string e.app, .string e.proc, .string e.id, dv, .string e.text]
/-- The message lies in this world; its parts have sizes that a machine holds. -/
structure Ev.In (e : Ev) (w : World) (dv : Value) : Prop where
  data : ElmsAt w dv e.data
  fits : ElmsFit e.data
  host : e.host.size ≤ 140737488355328
  app : e.app.size ≤ 140737488355328
  proc : e.proc.size ≤ 140737488355328
  id : e.id.size ≤ 140737488355328
  text : e.text.size ≤ 140737488355328
theorem Ev.In.below {e : Ev} {w w' : World} {dv : Value} (h : e.In w dv) (hb : Below w.heap.size w w') : e.In w' dv :=
  ⟨h.data.below hb, h.fits, h.host, h.app, h.proc, h.id, h.text⟩
theorem ElmsAt.shape {w : World} {dv : Value} {es : List Elm} (h : ElmsAt w dv es) : ∃ a c, dv = .slice a es.length c := by
  obtain ⟨a, c, h, _⟩ := h
  exact ⟨a, c, h⟩

def timeB (timed : Bool) (a : Int) : Bool := if timed = true then decide (clamp a - clamp a % 1000 = a) else decide (a = 0)
def wordsB (e : Ev) : Bool := wordB e.host.data.toList 255 && (wordB e.app.data.toList 48 && (wordB e.proc.data.toList 128 && wordB e.id.data.toList 32))
def rightE (e : Ev) : Int :=
  if ¬ ((0 ≤ e.grave ∧ e.grave ≤ 7) ∧ (0 ≤ e.from' ∧ e.from' ≤ 23) ∧ timeB e.timed e.at' = true) then 1
  else if ¬ (wordsB e = true ∧ dataB e.data = true ∧ Lib.validD e.text.data.toList = true) then 3
  else if 64 < e.data.length ∨ e.data.any longB = true then 4
  else 0

set_option maxRecDepth 100000 in
theorem time_any (e : Ev) (dv : Value) (w : World) (hS : Std w) (h : ∃ a n c, dv = .slice a n c) :
    Calls Tryz.prog 50 #[e.val dv] w fun r w' => r = .returned (.bool (timeB e.timed e.at')) ∧ Below w.heap.size w w' := by
  obtain ⟨la, ln, lc, rfl⟩ := h
  obtain ⟨g, f, t, a, ho, ap, pr, id, da, tx⟩ := e
  have hb : ∀ tt, Below w.heap.size w (w.alloc (.cells #[.int .i64 g, .int .i64 f, .bool tt, .int .i64 a, .string ho, .string ap, .string pr, .string id, .slice la ln lc, .string tx] 29)) := fun _ => (Below.refl _ _).alloc (Nat.le_refl _) _
  have hS1 := fun tt => hS.below (hb tt)
  unfold timeB
  show Calls _ _ _ _ fun r w' => r = .returned (.bool (if t = true then decide (clamp a - clamp a % 1000 = a) else decide (a = 0))) ∧ _
  cases t with
  | false =>
    have hB := hb false
    clear hb hS1
    rw [if_neg (by decide)]
    have hq : (a == 0) = decide (a = 0) := by rw [Bool.eq_iff_iff, beq_iff_eq, decide_eq_true_iff]
    go_enter Tryz.func50, Tryz.ntmps50
    go_wp2
    go_ret
    exact ⟨rfl, hB⟩
  | true =>
    have hB := hb true
    have hT := (hS1 true).1
    rw [if_pos rfl]
    clear hb hS1
    go_enter Tryz.func50, Tryz.ntmps50
    go_wp2_with fail
    refine (Cal.date_any a _ hT).mono ?_
    rintro r w2 ⟨y, m, d, hh, i, s, k, rfl, hD, hb2⟩
    have B2 := hB.trans (hb2.mono hB.size)
    have hT2 := hT.below hb2
    obtain ⟨hc2, hf2⟩ := bcell hb2
    have hz2 : w.heap.size < w2.heap.size := by have := hb2.size; simp at this; omega
    have HD := Lib.hid hD
    clear hb2 hD
    go_wp2_with fail
    refine (Cal.nanos_yes y m d hh i s k 0 w2 hT2 (HD.out).1).mono ?_
    rintro r w3 ⟨rfl, hb3⟩
    obtain ⟨hc3, hf3⟩ := bcell hb3
    have B3 := B2.trans (hb3.mono B2.size)
    have HN := Lib.hid (HD.out).2
    generalize nanosI y m d hh i s k 0 = N at HN ⊢
    have hq : (N == a) = decide (N = a) := by rw [Bool.eq_iff_iff, beq_iff_eq, decide_eq_true_iff]
    go_wp2
    go_ret
    exact ⟨by rw [← HN.out]; rfl, B3⟩
theorem word_t {s : ByteArray} {most : Int} {b : Bool} {w : World} (h : wordB s.data.toList most = b) (hs : s.size ≤ 140737488355328) :
    Calls Tryz.prog 75 #[.string s, .int .i64 most] w fun e w' => e = .returned (.bool b) ∧ w' = w := by
  rw [← h]; exact word_any s most w (by omega)
set_option maxRecDepth 100000 in
theorem words_any (e : Ev) (dv : Value) (w : World) (h : e.In w dv) :
    Calls Tryz.prog 51 #[e.val dv] w fun r w' => r = .returned (.bool (wordsB e)) ∧ Below w.heap.size w w' := by
  obtain ⟨la, lc, hdv⟩ := h.data.shape
  obtain ⟨hd, hf, h1, h2, h3, h4, h5⟩ := h
  obtain ⟨g, f, t, a, ho, ap, pr, id, da, tx⟩ := e
  subst hdv
  have hB : Below w.heap.size w (w.alloc (.cells #[.int .i64 g, .int .i64 f, .bool t, .int .i64 a, .string ho, .string ap, .string pr, .string id, .slice la da.length lc, .string tx] 29)) := (Below.refl _ _).alloc (Nat.le_refl _) _
  unfold wordsB
  show Calls _ _ _ _ fun r w' => r = .returned (.bool (wordB ho.data.toList 255 && (wordB ap.data.toList 48 && (wordB pr.data.toList 128 && wordB id.data.toList 32)))) ∧ _
  simp only at h1 h2 h3 h4
  obtain ⟨b1, hb1⟩ : ∃ b, wordB ho.data.toList 255 = b := ⟨_, rfl⟩
  obtain ⟨b2, hb2⟩ : ∃ b, wordB ap.data.toList 48 = b := ⟨_, rfl⟩
  obtain ⟨b3, hb3⟩ : ∃ b, wordB pr.data.toList 128 = b := ⟨_, rfl⟩
  obtain ⟨b4, hb4⟩ : ∃ b, wordB id.data.toList 32 = b := ⟨_, rfl⟩
  have K1 := Lib.hid hb1
  have K2 := Lib.hid hb2
  have K3 := Lib.hid hb3
  have K4 := Lib.hid hb4
  rw [hb1, hb2, hb3, hb4]
  clear hb1 hb2 hb3 hb4 hd hf h5
  go_enter Tryz.func51, Tryz.ntmps51
  go_wp2_with fail
  refine (word_t K1.out h1).mono ?_
  rintro e w' ⟨rfl, rfl⟩
  cases b1 with
  | false =>
    go_wp2
    go_ret
    exact ⟨rfl, hB⟩
  | true =>
    go_wp2_with fail
    refine (word_t K2.out h2).mono ?_
    rintro e w' ⟨rfl, rfl⟩
    cases b2 with
    | false =>
      go_wp2
      go_ret
      exact ⟨rfl, hB⟩
    | true =>
      go_wp2_with fail
      refine (word_t K3.out h3).mono ?_
      rintro e w' ⟨rfl, rfl⟩
      cases b3 with
      | false =>
        go_wp2
        go_ret
        exact ⟨rfl, hB⟩
      | true =>
        go_wp2_with fail
        refine (word_t K4.out h4).mono ?_
        rintro e w' ⟨rfl, rfl⟩
        go_wp2
        go_ret
        exact ⟨rfl, hB⟩
theorem within_t {n last : Int} {b : Bool} {w : World} (h : decide (0 ≤ n ∧ n ≤ last) = b) : Calls Tryz.prog 49 #[.int .i64 n, .int .i64 last] w fun e w' => e = .returned (.bool b) ∧ w' = w := by
  rw [← h]; exact within_any n last w
set_option maxHeartbeats 1000000 in
set_option maxRecDepth 100000 in
theorem right_any (e : Ev) (dv : Value) (w : World) (hS : Std w) (h : e.In w dv) :
    Calls Tryz.prog 35 #[e.val dv] w fun r w' => r = .returned (.int .i64 (rightE e)) ∧ Below w.heap.size w w' := by
  obtain ⟨la, lc, hdv⟩ := h.data.shape
  obtain ⟨ww, hww⟩ : ∃ ww, (w.alloc (.cells #[.int .i64 e.grave, .int .i64 e.from', .bool e.timed, .int .i64 e.at', .string e.host, .string e.app, .string e.proc, .string e.id, dv, .string e.text] 29)) = ww := ⟨_, rfl⟩
  have hB : Below w.heap.size w ww := by rw [← hww]; exact (Below.refl _ _).alloc (Nat.le_refl _) _
  have hS1 := hS.below hB
  have hI1 := h.below hB
  have HT := Lib.hid (fun W (hW : Std W) => time_any e dv W hW ⟨_, _, _, hdv⟩)
  have HW := Lib.hid (fun W (hW : e.In W dv) => words_any e dv W hW)
  have HDt := Lib.hid (fun W (hW : Std W) (hI : e.In W dv) => data_any e.data dv W hW hI.data hI.fits)
  have HV := Lib.hid (fun W (hW : Std W) => valid_any e.text W (by have := h.text; omega) hW)
  have HL := Lib.hid (fun W (hI : e.In W dv) => any_long e.data dv W hI.data hI.fits.1 (fun x hx => (hI.fits.2 x hx).2.1))
  have HR := Lib.hid (show rightE e = if ¬ ((0 ≤ e.grave ∧ e.grave ≤ 7) ∧ (0 ≤ e.from' ∧ e.from' ≤ 23) ∧ timeB e.timed e.at' = true) then 1
    else if ¬ (wordsB e = true ∧ dataB e.data = true ∧ Lib.validD e.text.data.toList = true) then 3
    else if 64 < e.data.length ∨ e.data.any longB = true then 4 else 0 from rfl)
  have hlen := h.fits.1
  obtain ⟨bt, hbt⟩ : ∃ b, timeB e.timed e.at' = b := ⟨_, rfl⟩
  obtain ⟨bw, hbw⟩ : ∃ b, wordsB e = b := ⟨_, rfl⟩
  obtain ⟨bd, hbd⟩ : ∃ b, dataB e.data = b := ⟨_, rfl⟩
  obtain ⟨bv, hbv⟩ : ∃ b, Lib.validD e.text.data.toList = b := ⟨_, rfl⟩
  obtain ⟨bl, hbl⟩ : ∃ b, e.data.any longB = b := ⟨_, rfl⟩
  rw [hbt] at HT HR
  rw [hbw] at HW HR
  rw [hbd] at HDt HR
  rw [hbv] at HV HR
  rw [hbl] at HL HR
  clear hbt hbw hbd hbv hbl
  generalize rightE e = R at HR ⊢
  obtain ⟨bg, hbg⟩ : ∃ b, decide (0 ≤ e.grave ∧ e.grave ≤ 7) = b := ⟨_, rfl⟩
  obtain ⟨bf, hbf⟩ : ∃ b, decide (0 ≤ e.from' ∧ e.from' ≤ 23) = b := ⟨_, rfl⟩
  have KG := Lib.hid hbg
  have KF := Lib.hid hbf
  have HR2 := Lib.hid (show R = if (bg && (bf && bt)) = false then 1 else if (bw && (bd && bv)) = false then 3 else if 64 < e.data.length ∨ bl = true then 4 else 0 by
    rw [HR.out, ← hbg, ← hbf]
    have q1 : (¬ ((0 ≤ e.grave ∧ e.grave ≤ 7) ∧ (0 ≤ e.from' ∧ e.from' ≤ 23) ∧ bt = true)) = ((decide (0 ≤ e.grave ∧ e.grave ≤ 7) && (decide (0 ≤ e.from' ∧ e.from' ≤ 23) && bt)) = false) := by
      rw [← Bool.not_eq_true]; simp only [Bool.and_eq_true, decide_eq_true_iff]
    have q2 : (¬ (bw = true ∧ bd = true ∧ bv = true)) = ((bw && (bd && bv)) = false) := by
      rw [← Bool.not_eq_true]; simp only [Bool.and_eq_true]
    simp only [q1, q2])
  clear hbg hbf HR
  obtain ⟨g, f, t, a, ho, ap, pr, id, da, tx⟩ := e
  subst hdv
  simp only at hww hlen KG KF HT HW HDt HV HL HR2 ⊢
  clear h
  subst hww
  have hn64 : (64 : Int) < (da.length : Int) ↔ 64 < da.length := by omega
  go_enter Tryz.func35, Tryz.ntmps35
  go_wp2_with fail
  refine (within_t KG.out).mono ?_
  rintro r w' ⟨rfl, rfl⟩
  cases bg with
  | false =>
    have HE := Lib.hid (show R = 1 by have := HR2.out; simpa using this)
    go_wp2
    go_ret
    exact ⟨by rw [HE.out]; rfl, hB⟩
  | true =>
    go_wp2_with fail
    refine (within_t KF.out).mono ?_
    rintro r w' ⟨rfl, rfl⟩
    cases bf with
    | false =>
      have HE := Lib.hid (show R = 1 by have := HR2.out; simpa using this)
      go_wp2
      go_ret
      exact ⟨by rw [HE.out]; rfl, hB⟩
    | true =>
      go_wp2_with fail
      refine (HT.out _ hS1).mono ?_
      rintro r w2 ⟨rfl, hb2⟩
      have B2 := hB.trans (hb2.mono hB.size)
      have hS2 := hS1.below hb2
      have hI2 := hI1.below hb2
      obtain ⟨hc2, hf2⟩ := bcell hb2
      have hz2 : w.heap.size < w2.heap.size := by have := hb2.size; simp at this; omega
      clear hb2
      cases bt with
      | false =>
        have HE := Lib.hid (show R = 1 by have := HR2.out; simpa using this)
        go_wp2
        go_ret
        exact ⟨by rw [HE.out]; rfl, B2⟩
      | true =>
        go_wp2_with fail
        refine (HW.out _ hI2).mono ?_
        rintro r w3 ⟨rfl, hb3⟩
        have B3 := B2.trans (hb3.mono B2.size)
        have hS3 := hS2.below hb3
        have hI3 := hI2.below hb3
        obtain ⟨hc3, hf3⟩ := bcell hb3
        have hz3 : w.heap.size < w3.heap.size := Nat.lt_of_lt_of_le hz2 hb3.size
        cases bw with
        | false =>
          have HE := Lib.hid (show R = 3 by have := HR2.out; simpa using this)
          go_wp2
          go_ret
          exact ⟨by rw [HE.out]; rfl, B3⟩
        | true =>
          go_wp2_with fail
          refine (HDt.out _ hS3 hI3).mono ?_
          rintro r w4 ⟨rfl, hb4⟩
          have B4 := B3.trans (hb4.mono B3.size)
          have hS4 := hS3.below hb4
          have hI4 := hI3.below hb4
          obtain ⟨hc4, hf4⟩ := bcell hb4
          have hz4 : w.heap.size < w4.heap.size := Nat.lt_of_lt_of_le hz3 hb4.size
          cases bd with
          | false =>
            have HE := Lib.hid (show R = 3 by have := HR2.out; simpa using this)
            go_wp2
            go_ret
            exact ⟨by rw [HE.out]; rfl, B4⟩
          | true =>
            go_wp2_with fail
            refine (HV.out _ hS4).mono ?_
            rintro r w5 ⟨rfl, hb5⟩
            have B5 := B4.trans (hb5.mono B4.size)
            have hI5 := hI4.below hb5
            obtain ⟨hc5, hf5⟩ := bcell hb5
            have hz5 : w.heap.size < w5.heap.size := Nat.lt_of_lt_of_le hz4 hb5.size
            cases bv with
            | false =>
              have HE := Lib.hid (show R = 3 by have := HR2.out; simpa using this)
              go_wp2
              go_ret
              exact ⟨by rw [HE.out]; rfl, B5⟩
            | true =>
              by_cases hl : 64 < da.length
              · have hl64 : (64 : Int) < (da.length : Int) := by omega
                have HE := Lib.hid (show R = 4 by have := HR2.out; simpa [hl] using this)
                clear hl hn64
                go_wp2
                go_ret
                exact ⟨by rw [HE.out]; rfl, B5⟩
              · have hl64 : ¬ (64 : Int) < (da.length : Int) := by omega
                have HR3 := Lib.hid (show R = if bl = true then 4 else 0 by have := HR2.out; simpa [hl] using this)
                clear hl hn64
                go_wp2_with fail
                refine (HL.out _ hI5).mono ?_
                rintro r w6 ⟨rfl, hb6⟩
                have B6 := B5.trans (hb6.mono B5.size)
                cases bl with
                | false =>
                  have HE := Lib.hid (show R = 0 from HR3.out)
                  go_wp2
                  go_ret
                  exact ⟨by rw [HE.out]; rfl, B6⟩
                | true =>
                  have HE := Lib.hid (show R = 4 from HR3.out)
                  go_wp2
                  go_ret
                  exact ⟨by rw [HE.out]; rfl, B6⟩
end Go.Proofs.YtmmghppjhmdikaaGreatDoor
/- What sysl.Get answers: the value of the first parameter of that name of the first element of that Id. Conditions: sizes. -/
namespace Go.Proofs.YtmmghppjhmdikaaGreatDoor
open Go.ChangeShapes Go.WideShapes Go.ChangeAt Go.RowKit

def getL (es : List Elm) (id nm : ByteArray) : ByteArray × Bool :=
  match es[es.findIdx (isIdB id)]? with
  | none => (⟨#[]⟩, false)
  | some x => match x.2[x.2.findIdx (isNmB nm)]? with
    | none => (⟨#[]⟩, false)
    | some p => (p.2, true)
theorem fstI_miss {α : Type} {p : α → Bool} {l : List α} (h : l[l.findIdx p]? = none) : fstI p l = -1 := by
  unfold fstI
  rw [List.getElem?_eq_none_iff] at h
  rw [if_neg (by omega)]
theorem fstI_hit {α : Type} {p : α → Bool} {l : List α} {x : α} (h : l[l.findIdx p]? = some x) : fstI p l = (l.findIdx p : Int) ∧ l.findIdx p < l.length := by
  obtain ⟨h1, _⟩ := List.getElem?_eq_some_iff.1 h
  unfold fstI
  exact ⟨if_pos h1, h1⟩
end Go.Proofs.YtmmghppjhmdikaaGreatDoor
/- Small laws for the document's own Same. -/
namespace Go.Proofs.YtmmghppjhmdikaaGreatDoor
open Go.ChangeShapes Go.WideShapes Go.ChangeAt Go.RowKit

theorem toList_same (s : ByteArray) : (s.toList == s.toList) = true := beq_self_eq_true _
theorem toList_other {s t : ByteArray} (h : s ≠ t) : (s.toList == t.toList) = false := by rw [eq_text]; exact decide_eq_false h
theorem drewN_b (w : World) (n : Nat) : Below w.heap.size w (w.drewN n) := ⟨rfl, rfl, rfl, Nat.le_refl _, fun _ _ => rfl⟩
end Go.Proofs.YtmmghppjhmdikaaGreatDoor
/- What the document's own Get answers: the value of the first parameter of that name of the first element of that Id. Conditions: sizes. -/
namespace Go.Proofs.YtmmghppjhmdikaaGreatDoor
open Go.ChangeShapes Go.WideShapes Go.ChangeAt Go.RowKit

theorem findIdx_hit {α : Type} {p : α → Bool} {l : List α} {k : Nat} {x : α} (hx : l[k]? = some x) (hp : p x = true) (hn : ∀ y ∈ l.take k, p y = false) : l.findIdx p = k := by
  obtain ⟨h1, h2⟩ := List.getElem?_eq_some_iff.1 hx
  rw [List.findIdx_eq h1]
  refine ⟨by rw [h2]; exact hp, fun j hj => hn _ ?_⟩
  rw [List.mem_take_iff_getElem]
  exact ⟨j, by omega, rfl⟩
theorem findIdx_none {α : Type} {p : α → Bool} {l : List α} (hn : ∀ y ∈ l.take l.length, p y = false) : l[l.findIdx p]? = none := by
  rw [List.take_length] at hn
  rw [List.findIdx_eq_length.2 hn]
  exact List.getElem?_eq_none (Nat.le_refl _)
theorem take_next {α : Type} {p : α → Bool} {l : List α} {k : Nat} {x : α} (hx : l[k]? = some x) (hp : p x = false) (hn : ∀ y ∈ l.take k, p y = false) : ∀ y ∈ l.take (k + 1), p y = false := by
  obtain ⟨h1, h2⟩ := List.getElem?_eq_some_iff.1 hx
  intro y hy
  rw [List.take_succ_eq_append_getElem h1, List.mem_append, List.mem_singleton] at hy
  rcases hy with hy | hy
  · exact hn y hy
  · rw [hy, h2]; exact hp
/-- What Get's worlds hold of its event. -/
abbrev OneS (w0 : World) (va : Value) (W : World) : Prop := Below w0.heap.size w0 W ∧ W.cell? ⟨w0.heap.size, 8, none⟩ = some va
end Go.Proofs.YtmmghppjhmdikaaGreatDoor
