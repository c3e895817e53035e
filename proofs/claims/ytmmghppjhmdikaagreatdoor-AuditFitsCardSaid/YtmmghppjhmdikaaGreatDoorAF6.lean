/- The texts Ev, Find, Nodup, Data, one behind the other. -/
import Derived.Test.YtmmghppjhmdikaaGreatDoorAF3
import Derived.Test.YtmmghppjhmdikaaGreatDoorAF2
import Derived.Test.YtmmghppjhmdikaaGreatDoorAF1
import Derived.Test.YtmmghppjhmdikaaGreatDoorAF30
import Derived.Lib.SlicesCompact
import Derived.Sort.OwnSorted
import Derived.Sort.Grow
import Derived.Lib.OwnBridge
import Derived.OwnWalk
/- How a message's elements lie in memory; the tables that the functions read. No call is spoken of. -/
namespace Go.Proofs.YtmmghppjhmdikaaGreatDoor
open Go.ChangeShapes Go.WideShapes Go.ChangeAt Go.RowKit

abbrev Prm := ByteArray × ByteArray
abbrev Elm := ByteArray × List Prm
/-- A slice's value holds these parameters. -/
def PrmsAt (w : World) (v : Value) (ps : List Prm) : Prop :=
  ∃ (a : Option Addr) (c : Nat), v = .slice a ps.length c ∧ (0 < ps.length → ∃ b o : Nat, a = some ⟨b, o, none⟩ ∧ b < w.heap.size ∧
    ∀ j p, ps[j]? = some p → w.cell? ⟨b, o + 2 * j, none⟩ = some (.string p.1) ∧ w.cell? ⟨b, o + 2 * j + 1, none⟩ = some (.string p.2))
/-- A slice's value holds these elements. -/
def ElmsAt (w : World) (v : Value) (es : List Elm) : Prop :=
  ∃ (a : Option Addr) (c : Nat), v = .slice a es.length c ∧ (0 < es.length → ∃ b o : Nat, a = some ⟨b, o, none⟩ ∧ b < w.heap.size ∧
    ∀ j e, es[j]? = some e → ∃ lv, w.cell? ⟨b, o + 2 * j, none⟩ = some (.string e.1) ∧ w.cell? ⟨b, o + 2 * j + 1, none⟩ = some lv ∧ PrmsAt w lv e.2)
theorem PrmsAt.below {w w' : World} {v : Value} {ps : List Prm} (h : PrmsAt w v ps) (hb : Below w.heap.size w w') : PrmsAt w' v ps := by
  obtain ⟨a, c, rfl, h⟩ := h
  refine ⟨a, c, rfl, fun hn => ?_⟩
  obtain ⟨b, o, rfl, hlt, hc⟩ := h hn
  exact ⟨b, o, rfl, Nat.lt_of_lt_of_le hlt hb.size, fun j p hp => ⟨(hb.cell (p := ⟨b, _, none⟩) hlt).trans (hc j p hp).1, (hb.cell (p := ⟨b, _, none⟩) hlt).trans (hc j p hp).2⟩⟩
theorem ElmsAt.below {w w' : World} {v : Value} {es : List Elm} (h : ElmsAt w v es) (hb : Below w.heap.size w w') : ElmsAt w' v es := by
  obtain ⟨a, c, rfl, h⟩ := h
  refine ⟨a, c, rfl, fun hn => ?_⟩
  obtain ⟨b, o, rfl, hlt, hc⟩ := h hn
  refine ⟨b, o, rfl, Nat.lt_of_lt_of_le hlt hb.size, fun j e he => ?_⟩
  obtain ⟨lv, c1, c2, hp⟩ := hc j e he
  exact ⟨lv, (hb.cell (p := ⟨b, _, none⟩) hlt).trans c1, (hb.cell (p := ⟨b, _, none⟩) hlt).trans c2, hp.below hb⟩
theorem PrmsAt.nil (w : World) (a : Option Addr) (c : Nat) : PrmsAt w (.slice a 0 c) [] := ⟨a, c, rfl, fun h => absurd h (by decide)⟩
theorem ElmsAt.nil (w : World) (a : Option Addr) (c : Nat) : ElmsAt w (.slice a 0 c) [] := ⟨a, c, rfl, fun h => absurd h (by decide)⟩

/-- The tables stand: the months' lengths, and those of unicode/utf8. -/
def Std (w : World) : Prop := Cal.Tab w ∧ Lib.Utf8Tabs 0 1 w
theorem Std.below {w w' : World} (h : Std w) (hb : Below w.heap.size w w') : Std w' := ⟨h.1.below hb, Utf8Tabs_below h.2 hb⟩
theorem valid_any (s : ByteArray) (w : World) (hs : s.size ≤ 9223372036854775807) (h : Std w) :
    Calls Tryz.prog 53 #[.string s] w fun e w' => e = .returned (.bool (Lib.validD s.data.toList)) ∧ Below w.heap.size w w' := Tryz.utf8_ValidString s w hs h.2

/-! ### the first place at which something holds -/
def fstI {α : Type} (p : α → Bool) (l : List α) : Int := if l.findIdx p < l.length then (l.findIdx p : Int) else -1
theorem fstI_at {α : Type} {p : α → Bool} {l : List α} {k : Nat} {x : α} (hx : l[k]? = some x) (hp : p x = true) (hn : ∀ y ∈ l.take k, p y = false) : fstI p l = k := by
  have hk : k < l.length := by
    rcases Nat.lt_or_ge k l.length with h | h
    · exact h
    · rw [List.getElem?_eq_none h] at hx; cases hx
  have hxe : l[k] = x := by rw [List.getElem?_eq_getElem hk] at hx; exact Option.some.inj hx
  have e : l.findIdx p = k := by
    rw [List.findIdx_eq hk]
    refine ⟨by rw [hxe]; exact hp, fun j hj => ?_⟩
    have := hn l[j] (by rw [List.mem_take_iff_getElem]; exact ⟨j, by omega, rfl⟩)
    simpa using this
  unfold fstI
  rw [e, if_pos hk]
theorem fstI_none {α : Type} {p : α → Bool} {l : List α} (h : ∀ y ∈ l, p y = false) : fstI p l = -1 := by
  unfold fstI
  rw [if_neg]
  intro hlt
  have := List.findIdx_getElem (w := hlt)
  rw [h _ (List.getElem_mem hlt)] at this
  cases this
theorem fstI_any {α : Type} (p : α → Bool) (l : List α) : (0 ≤ fstI p l) = (l.any p = true) := by
  apply propext
  unfold fstI
  split
  · rename_i h
    constructor
    · intro _
      rw [List.any_eq_true]
      exact ⟨l[l.findIdx p], List.getElem_mem h, List.findIdx_getElem⟩
    · intro _; omega
  · rename_i h
    constructor
    · intro h'; omega
    · intro hx
      rw [List.any_eq_true] at hx
      obtain ⟨x, hx1, hx2⟩ := hx
      exact absurd (List.findIdx_lt_length_of_exists ⟨x, hx1, hx2⟩) h
end Go.Proofs.YtmmghppjhmdikaaGreatDoor
/- Where slices.IndexFunc finds the first element, or parameter, of which something holds; whether slices.ContainsFunc finds one. -/
namespace Go.Proofs.YtmmghppjhmdikaaGreatDoor
open Go.ChangeShapes Go.WideShapes Go.ChangeAt Go.RowKit

def longB (e : Elm) : Bool := decide (64 < e.2.length)
theorem bcell {W w1 : World} (hb : Below W.heap.size W w1) : (∀ b o, b < W.heap.size → w1.cell? ⟨b, o, none⟩ = W.cell? ⟨b, o, none⟩) ∧ (∀ b o, b < W.heap.size → w1.frozen? ⟨b, o, none⟩ = W.frozen? ⟨b, o, none⟩) :=
  ⟨fun b o h => hb.cell (p := ⟨b, o, none⟩) h, fun b o h => hb.frozen (p := ⟨b, o, none⟩) h⟩
theorem long_any (id : ByteArray) (lv : Value) (ps : List Prm) (w : World) (h : PrmsAt w lv ps) (hs : ps.length ≤ 17592186044416) :
    Calls Tryz.prog 55 #[.agg #[.string id, lv]] w fun e w' => e = .returned (.bool (longB (id, ps))) ∧ Below w.heap.size w w' := by
  obtain ⟨a, c, rfl, _⟩ := h
  unfold longB
  show Calls _ _ _ _ fun e w' => e = .returned (.bool (decide (64 < ps.length))) ∧ _
  generalize ps.length = n at hs ⊢
  have hb : Below w.heap.size w (w.alloc (.cells #[.string id, .slice a n c] 58)) := (Below.refl _ _).alloc (Nat.le_refl _) _
  by_cases hn : 64 < n
  · have hn' : (64 : Int) < (n : Int) := by omega
    rw [decide_eq_true hn]
    clear hn
    go_enter Tryz.func55, Tryz.ntmps55
    go_wp2
    go_ret
    exact ⟨rfl, hb⟩
  · have hn' : ¬ (64 : Int) < (n : Int) := by omega
    rw [decide_eq_false hn]
    clear hn
    go_enter Tryz.func55, Tryz.ntmps55
    go_wp2
    go_ret
    exact ⟨rfl, hb⟩
set_option maxHeartbeats 1000000 in
theorem idx_long (es : List Elm) (v : Value) (w : World) (h : ElmsAt w v es) (hs : es.length ≤ 17592186044416) (hl : ∀ e ∈ es, e.2.length ≤ 17592186044416) :
    Calls Tryz.prog 82 #[v, .func (.func 55) #[] #[]] w fun e w' => e = .returned (.int .i64 (fstI (longB) es)) ∧ Below w.heap.size w w' := by
  obtain ⟨a, c, rfl, hmem⟩ := h
  have HM := Lib.hid hmem
  clear hmem
  obtain ⟨n, hn⟩ : ∃ n, es.length = n := ⟨_, rfl⟩
  have HN := Lib.hid hn
  rw [hn] at hs ⊢
  clear hn
  go_enter Tryz.func82, Tryz.ntmps82
  go_wp2
  go_loopw [8] (fun i wr => ∃ k : Nat, k ≤ n ∧ i = .int .i64 k ∧ (∀ y ∈ es.take k, (longB) y = false) ∧ Below w.heap.size w wr) (fun i _ => n - (intOf i).toNat)
  case atStart => exact ⟨0, by omega, rfl, by simp, Below.refl _ _⟩
  case round =>
    obtain ⟨k, hk, rfl, hall, hB⟩ := hrel
    have HA := Lib.hid hall
    clear hall
    by_cases hlt : k < n
    · obtain ⟨x, hx⟩ : ∃ x, es[k]? = some x := ⟨es[k]'(by rw [HN.out]; exact hlt), List.getElem?_eq_getElem _⟩
      obtain ⟨b, o, ha, hb, hc⟩ := HM.out (by rw [HN.out]; omega)
      subst ha
      have hbw : b < wr.heap.size := Nat.lt_of_lt_of_le hb hB.size
      obtain ⟨lv, c1, c2, hp⟩ := hc k x hx
      have d1 : wr.cell? ⟨b, o + 2 * k, none⟩ = some (.string x.1) := (hB.cell (p := ⟨b, _, none⟩) hb).trans c1
      have d2 : wr.cell? ⟨b, o + 2 * k + 1, none⟩ = some lv := (hB.cell (p := ⟨b, _, none⟩) hb).trans c2
      have hp' := hp.below hB
      obtain ⟨x1, x2⟩ := x
      have HC := Lib.hid (long_any x1 lv x2 wr hp' (hl _ (List.mem_of_getElem? hx)))
      have HX := Lib.hid hx
      clear hc c1 c2 hp hp' hx
      have e1 : o + k * 2 = o + 2 * k := by omega
      simp only at d1 d2
      by_cases hpx : (longB) (x1, x2) = true
      · have HR := Lib.hid (fstI_at HX.out hpx HA.out)
        rw [hpx] at HC
        clear hpx
        go_wp2_with fail
        refine HC.out.mono ?_
        rintro e w' ⟨rfl, hb2⟩
        have B2 := hB.trans (hb2.mono hB.size)
        go_wp2
        go_ret
        exact ⟨by rw [HR.out]; rfl, B2⟩
      · have hpf : (longB) (x1, x2) = false := by simpa using hpx
        have HA2 := Lib.hid (show ∀ y ∈ es.take (k + 1), (longB) y = false by
          intro y hy
          rw [List.take_add_one, HX.out, List.mem_append] at hy
          rcases hy with hy | hy
          · exact HA.out y hy
          · simp at hy
            rw [hy]; exact hpf)
        rw [hpf] at HC
        clear hpx hpf
        go_wp2_with fail
        refine HC.out.mono ?_
        rintro e w' ⟨rfl, hb2⟩
        have B2 := hB.trans (hb2.mono hB.size)
        go_wp2
        go_roundw
        case rel => exact ⟨k + 1, by omega, by go_num, HA2.out, B2⟩
        case measure => simp [intOf]; omega
    · obtain rfl : k = n := by omega
      have HR := Lib.hid (show fstI (longB) es = -1 from fstI_none (fun y hy => HA.out y (by rw [← HN.out, List.take_length]; exact hy)))
      go_wp2
      go_ret
      exact ⟨by rw [HR.out]; rfl, hB⟩

/-! ### parameters that may not be -/
def wrongB (p : Prm) : Bool := !(nameB p.1.data.toList) || !(Lib.validD p.2.data.toList)
theorem wrong_any (x1 x2 : ByteArray) (w : World) (hS : Std w) (h1 : x1.size ≤ 9223372036854775807) (h2 : x2.size ≤ 9223372036854775807) :
    Calls Tryz.prog 78 #[.agg #[.string x1, .string x2]] w fun e w' => e = .returned (.bool (wrongB (x1, x2))) ∧ Below w.heap.size w w' := by
  have hb : Below w.heap.size w (w.alloc (.cells #[.string x1, .string x2] 74)) := (Below.refl _ _).alloc (Nat.le_refl _) _
  have hS1 := hS.below hb
  have HN := Lib.hid (name_any x1 (w.alloc (.cells #[.string x1, .string x2] 74)) h1)
  have HV := Lib.hid (fun W (hW : Std W) => valid_any x2 W h2 hW)
  unfold wrongB
  show Calls _ _ _ _ fun e w' => e = .returned (.bool (!(nameB x1.data.toList) || !(Lib.validD x2.data.toList))) ∧ _
  generalize nameB x1.data.toList = b1 at HN ⊢
  generalize Lib.validD x2.data.toList = b2 at HV ⊢
  cases b1 with
  | false =>
    go_enter Tryz.func78, Tryz.ntmps78
    go_wp2_with fail
    refine HN.out.mono ?_
    rintro e w' ⟨rfl, hb2⟩
    have B2 := hb.trans (hb2.mono (by simp))
    go_wp2
    go_ret
    exact ⟨rfl, B2⟩
  | true =>
    go_enter Tryz.func78, Tryz.ntmps78
    go_wp2_with fail
    refine HN.out.mono ?_
    rintro e w2 ⟨rfl, hb2⟩
    have B2 := hb.trans (hb2.mono (by simp))
    have hS2 := hS1.below hb2
    obtain ⟨hc2, hf2⟩ := bcell hb2
    have hz : w.heap.size < w2.heap.size := by have := hb2.size; simp at this; omega
    clear hb2
    go_wp2_with fail
    refine (HV.out _ hS2).mono ?_
    rintro e w3 ⟨rfl, hb3⟩
    have B3 := B2.trans (hb3.mono B2.size)
    go_wp2
    go_ret
    exact ⟨by simp, B3⟩

/-! ### elements of an Id, parameters of a name -/
def isIdB (id : ByteArray) (e : Elm) : Bool := decide (e.1 = id)
def isNmB (id : ByteArray) (p : Prm) : Bool := decide (p.1 = id)
set_option maxHeartbeats 1000000 in
theorem idx_wrong (es : List Prm) (v : Value) (w : World) (h : PrmsAt w v es) (hs : es.length ≤ 17592186044416) (hS : Std w) (hl : ∀ p ∈ es, p.1.size ≤ 140737488355328 ∧ p.2.size ≤ 140737488355328) :
    Calls Tryz.prog 103 #[v, .func (.func 78) #[] #[]] w fun e w' => e = .returned (.int .i64 (fstI (wrongB) es)) ∧ Below w.heap.size w w' := by
  obtain ⟨a, c, rfl, hmem⟩ := h
  have HM := Lib.hid hmem
  clear hmem
  obtain ⟨n, hn⟩ : ∃ n, es.length = n := ⟨_, rfl⟩
  have HN := Lib.hid hn
  rw [hn] at hs ⊢
  clear hn
  go_enter Tryz.func103, Tryz.ntmps103
  go_wp2
  go_loopw [8] (fun i wr => ∃ k : Nat, k ≤ n ∧ i = .int .i64 k ∧ (∀ y ∈ es.take k, (wrongB) y = false) ∧ Below w.heap.size w wr) (fun i _ => n - (intOf i).toNat)
  case atStart => exact ⟨0, by omega, rfl, by simp, Below.refl _ _⟩
  case round =>
    obtain ⟨k, hk, rfl, hall, hB⟩ := hrel
    have HA := Lib.hid hall
    clear hall
    by_cases hlt : k < n
    · obtain ⟨x, hx⟩ : ∃ x, es[k]? = some x := ⟨es[k]'(by rw [HN.out]; exact hlt), List.getElem?_eq_getElem _⟩
      obtain ⟨b, o, ha, hb, hc⟩ := HM.out (by rw [HN.out]; omega)
      subst ha
      have hbw : b < wr.heap.size := Nat.lt_of_lt_of_le hb hB.size
      obtain ⟨c1, c2⟩ := hc k x hx
      have d1 : wr.cell? ⟨b, o + 2 * k, none⟩ = some (.string x.1) := (hB.cell (p := ⟨b, _, none⟩) hb).trans c1
      have d2 : wr.cell? ⟨b, o + 2 * k + 1, none⟩ = some (.string x.2) := (hB.cell (p := ⟨b, _, none⟩) hb).trans c2
      obtain ⟨x1, x2⟩ := x
      have HC := Lib.hid (wrong_any x1 x2 wr (hS.below hB) (by have := (hl _ (List.mem_of_getElem? hx)).1; simp only at this; omega) (by have := (hl _ (List.mem_of_getElem? hx)).2; simp only at this; omega))
      have HX := Lib.hid hx
      clear hc c1 c2 hx
      have e1 : o + k * 2 = o + 2 * k := by omega
      simp only at d1 d2
      by_cases hpx : (wrongB) (x1, x2) = true
      · have HR := Lib.hid (fstI_at HX.out hpx HA.out)
        rw [hpx] at HC
        clear hpx
        go_wp2_with fail
        refine HC.out.mono ?_
        rintro e w' ⟨rfl, hb2⟩
        have B2 := hB.trans (hb2.mono hB.size)
        go_wp2
        go_ret
        exact ⟨by rw [HR.out]; rfl, B2⟩
      · have hpf : (wrongB) (x1, x2) = false := by simpa using hpx
        have HA2 := Lib.hid (show ∀ y ∈ es.take (k + 1), (wrongB) y = false by
          intro y hy
          rw [List.take_add_one, HX.out, List.mem_append] at hy
          rcases hy with hy | hy
          · exact HA.out y hy
          · simp at hy
            rw [hy]; exact hpf)
        rw [hpf] at HC
        clear hpx hpf
        go_wp2_with fail
        refine HC.out.mono ?_
        rintro e w' ⟨rfl, hb2⟩
        have B2 := hB.trans (hb2.mono hB.size)
        go_wp2
        go_roundw
        case rel => exact ⟨k + 1, by omega, by go_num, HA2.out, B2⟩
        case measure => simp [intOf]; omega
    · obtain rfl : k = n := by omega
      have HR := Lib.hid (show fstI (wrongB) es = -1 from fstI_none (fun y hy => HA.out y (by rw [← HN.out, List.take_length]; exact hy)))
      go_wp2
      go_ret
      exact ⟨by rw [HR.out]; rfl, hB⟩
theorem any_long (es : List Elm) (v : Value) (w : World) (h : ElmsAt w v es) (hs : es.length ≤ 17592186044416) (hl : ∀ e ∈ es, e.2.length ≤ 17592186044416) :
    Calls Tryz.prog 54 #[v, .func (.func 55) #[] #[]] w fun e w' => e = .returned (.bool (es.any (longB))) ∧ Below w.heap.size w w' := by
  have HI := Lib.hid (idx_long es v w h hs hl)
  have HA := Lib.hid (fstI_any (longB) es)
  generalize fstI (longB) es = r at HI HA
  go_enter Tryz.func54, Tryz.ntmps54
  go_wp2_with fail
  refine HI.out.mono ?_
  rintro e w' ⟨rfl, hb⟩
  go_wp2
  go_ret
  refine ⟨?_, hb⟩
  have : decide (0 ≤ r) = es.any (longB) := by
    rw [Bool.eq_iff_iff, decide_eq_true_iff]
    exact iff_of_eq HA.out
  rw [← this]
  rfl
theorem any_wrong (es : List Prm) (v : Value) (w : World) (h : PrmsAt w v es) (hs : es.length ≤ 17592186044416) (hS : Std w) (hl : ∀ p ∈ es, p.1.size ≤ 140737488355328 ∧ p.2.size ≤ 140737488355328) :
    Calls Tryz.prog 77 #[v, .func (.func 78) #[] #[]] w fun e w' => e = .returned (.bool (es.any (wrongB))) ∧ Below w.heap.size w w' := by
  have HI := Lib.hid (idx_wrong es v w h hs hS hl)
  have HA := Lib.hid (fstI_any (wrongB) es)
  generalize fstI (wrongB) es = r at HI HA
  go_enter Tryz.func77, Tryz.ntmps77
  go_wp2_with fail
  refine HI.out.mono ?_
  rintro e w' ⟨rfl, hb⟩
  go_wp2
  go_ret
  refine ⟨?_, hb⟩
  have : decide (0 ≤ r) = es.any (wrongB) := by
    rw [Bool.eq_iff_iff, decide_eq_true_iff]
    exact iff_of_eq HA.out
  rw [← this]
  rfl
end Go.Proofs.YtmmghppjhmdikaaGreatDoor
/- Sorted and compacted, a list of texts is as long as it was just if none is there twice. No program is spoken of. -/
namespace Go.Proofs.YtmmghppjhmdikaaGreatDoor
open Go

theorem le_tr (a b c : List UInt8) (h1 : decide (a ≤ b) = true) (h2 : decide (b ≤ c) = true) : decide (a ≤ c) = true := by
  rw [decide_eq_true_iff] at *
  exact List.le_trans h1 h2
theorem le_tot (a b : List UInt8) : (decide (a ≤ b) || decide (b ≤ a)) = true := by
  rw [Bool.or_eq_true, decide_eq_true_iff, decide_eq_true_iff]
  exact List.le_total a b
theorem filter_full {α : Type} (p : α → Bool) : ∀ l : List α, (l.filter p).length = l.length ↔ ∀ x ∈ l, p x = true
  | [] => by simp
  | x :: l => by
    have ih := filter_full p l
    have hle := List.length_filter_le p l
    by_cases hx : p x = true
    · rw [List.filter_cons_of_pos hx]
      simp only [List.length_cons, List.mem_cons, forall_eq_or_imp, hx, true_and]
      rw [← ih]; omega
    · rw [List.filter_cons_of_neg hx]
      rw [List.length_cons]
      exact ⟨fun h => by omega, fun h => absurd (h x (by simp)) hx⟩
theorem sorted_nodup {l : List (List UInt8)} (hs : l.Pairwise fun a b => decide (a ≤ b) = true) :
    (∀ j, 0 < j → (hj : j < l.length) → l[j] ≠ l[j - 1]) ↔ l.Nodup := by
  constructor
  · intro h
    unfold List.Nodup
    rw [List.pairwise_iff_getElem] at hs ⊢
    intro i j hi hj hij he
    have h1 := hs i (j - 1)
    have h2 := h j (by omega) hj
    apply h2
    have lo : l[j - 1] ≤ l[j] := by
      have := hs (j - 1) j (by omega) hj (by omega)
      exact of_decide_eq_true this
    have up : l[j] ≤ l[j - 1] := by
      rw [← he]
      rcases Nat.lt_or_ge i (j - 1) with hlt | hge
      · exact of_decide_eq_true (hs i (j - 1) hi (by omega) hlt)
      · have : j - 1 = i := by omega
        simp only [this]
        exact List.le_refl _
    exact List.le_antisymm up lo
  · intro h j h0 hj he
    unfold List.Nodup at h
    rw [List.pairwise_iff_getElem] at h
    exact h (j - 1) j (by omega) hj (by omega) he.symm
theorem compact_full (l : List (List UInt8)) : (Lib.compact l).length = l.length ↔ ∀ j, 0 < j → (hj : j < l.length) → l[j] ≠ l[j - 1] := by
  unfold Lib.compact Lib.compactUpTo
  rw [List.length_map]
  have e : ∀ n, ((List.range n).filter (Lib.keeps l.toArray)).length = n ↔ ∀ j ∈ List.range n, Lib.keeps l.toArray j = true := fun n => by
    have := filter_full (Lib.keeps l.toArray) (List.range n)
    rwa [List.length_range] at this
  rw [e]
  constructor
  · intro h j h0 hj he
    have := h j (List.mem_range.2 hj)
    rw [Lib.keeps_neg h0 (by rw [getElem!_pos l.toArray j (by simpa using hj), getElem!_pos l.toArray (j - 1) (by simp; omega)]; simpa using he)] at this
    cases this
  · intro h j hj
    have hj' := List.mem_range.1 hj
    rcases Nat.eq_zero_or_pos j with rfl | h0
    · exact Lib.keeps_lt_one _ 0 (by decide)
    · exact Lib.keeps_pos (by rw [getElem!_pos l.toArray j (by simpa using hj'), getElem!_pos l.toArray (j - 1) (by simp; omega)]; simpa using h j h0 hj')
theorem compact_sorted (ss : List (List UInt8)) : decide ((Lib.compact (ss.mergeSort fun x y => decide (x ≤ y))).length = ss.length) = decide ss.Nodup := by
  rw [decide_eq_decide]
  have hl : (ss.mergeSort fun x y => decide (x ≤ y)).length = ss.length := List.length_mergeSort ss
  have hp : (ss.mergeSort fun x y => decide (x ≤ y)).Perm ss := List.mergeSort_perm ss _
  have hs : (ss.mergeSort fun x y => decide (x ≤ y)).Pairwise fun a b => decide (a ≤ b) = true := List.pairwise_mergeSort le_tr le_tot ss
  rw [← hp.nodup_iff, ← sorted_nodup hs, ← compact_full, hl]
end Go.Proofs.YtmmghppjhmdikaaGreatDoor
/- Whether elements may be: names and values that may be, and no Id twice. Conditions: the tables stand; sizes. -/
namespace Go.Proofs.YtmmghppjhmdikaaGreatDoor
open Go.ChangeShapes Go.WideShapes Go.ChangeAt Go.RowKit Go.Sort

def okE (e : Elm) : Bool := nameB e.1.data.toList && !(e.2.any wrongB)
def dataB (es : List Elm) : Bool := es.all okE && decide ((es.map fun e => e.1.data.toList).Nodup)
/-- Texts and values of sizes that a machine holds. -/
def ElmsFit (es : List Elm) : Prop := es.length ≤ 17592186044416 ∧ ∀ e ∈ es, e.1.size ≤ 140737488355328 ∧ e.2.length ≤ 17592186044416 ∧ ∀ p ∈ e.2, p.1.size ≤ 140737488355328 ∧ p.2.size ≤ 140737488355328
def rowS (es : List Elm) (k n : Nat) : List Value := ((es.take k).map fun e => Value.string e.1) ++ List.replicate (n - k) (.string ⟨#[]⟩)
theorem rowS_set {es : List Elm} {k n : Nat} {x : Elm} (hx : es[k]? = some x) (hk : k < n) : (rowS es k n).set k (.string x.1) = rowS es (k + 1) n := by
  have hl : k < es.length := by
    rcases Nat.lt_or_ge k es.length with h | h
    · exact h
    · rw [List.getElem?_eq_none h] at hx; cases hx
  have h1 : ((es.take k).map fun e => Value.string e.1).length = k := by rw [List.length_map, List.length_take]; omega
  unfold rowS
  rw [List.set_append_right _ _ (by omega), h1, Nat.sub_self, List.take_add_one, hx, show n - k = (n - (k + 1)) + 1 by omega, List.replicate_succ, List.set_cons_zero]
  simp
theorem owns_below {W W' : World} {base : Nat} {e : TypeId} {size n g cap : Nat} {xs : List Value} (h : W.ownsRow base e size (.slice (some ⟨g, 0, none⟩) n cap) n xs) (hg : g < W.heap.size) (hb : Below W.heap.size W W') :
    W'.ownsRow base e size (.slice (some ⟨g, 0, none⟩) n cap) n xs := by
  refine ⟨h.1, ?_⟩
  rcases h.2 with h0 | ⟨g', cap', cur, hv, hbase, hh, h1, h2, h3, h4⟩
  · exact .inl h0
  · cases hv
    exact .inr ⟨g, cap, cur, rfl, hbase, by rw [hb.block g hg]; exact hh, h1, h2, h3, h4⟩
theorem info9 : (Tryz.prog.info? 9).map (fun i => (i.zero, i.size, i.bytes)) = some (some (.string ⟨#[]⟩), 1, 16) := by kernel_rfl
theorem made_row (n : Nat) : (madeCells #[Value.string ⟨#[]⟩] n).toList = List.replicate n (.string ⟨#[]⟩) := by
  unfold madeCells
  rw [Array.toList_map, List.eq_replicate_iff]
  refine ⟨by simp, fun b hb => ?_⟩
  rw [List.mem_map] at hb
  obtain ⟨k, _, rfl⟩ := hb
  have : k % (#[Value.string ⟨#[]⟩] : Array Value).size = 0 := Nat.mod_one k
  rw [this]
  rfl
theorem sorted_fits {w wr : World} {n : Nat} {ss : List (List UInt8)} (hown : wr.ownsRow w.heap.size 9 1 (.slice (some ⟨w.heap.size, 0, none⟩) n n) n (ss.map encStr)) (hl : ss.length = n) : Holds encStr wr w.heap.size 0 ss.toArray := by
  intro j hj
  have hj' : j < ss.length := by simpa using hj
  refine ⟨?_, by rw [Nat.zero_add]; exact hown.frozenAt j⟩
  rw [Nat.zero_add, hown.cellAt j (by omega), List.getElem?_map, List.getElem?_eq_getElem hj', getElem!_pos ss.toArray j hj]
  simp
theorem rowS_full (es : List Elm) {n : Nat} (hn : es.length = n) : rowS es n n = (es.map fun e => e.1.data.toList).map encStr := by
  unfold rowS
  rw [← hn, List.take_length, Nat.sub_self, List.replicate_zero, List.append_nil, List.map_map]
  apply List.map_congr_left
  intro e _
  show Value.string e.1 = .string ⟨e.1.data.toList.toArray⟩
  rw [show (⟨e.1.data.toList.toArray⟩ : ByteArray) = e.1 from bytes_self e.1]
theorem after_sort {w wr : World} {g nn : Nat} {os : Array Obj} {ss ts : List (List UInt8)} (hl : ts.length = ss.length) (hH : Holds encStr wr g 0 ss.toArray) (hB : Below w.heap.size w wr) (hg : w.heap.size ≤ g) (hlt : g < wr.heap.size) :
    Holds encStr (grow (putRow encStr (Sort.ahead wr nn) g 0 ts.toArray) os) g 0 ts.toArray ∧ Below w.heap.size w (grow (putRow encStr (Sort.ahead wr nn) g 0 ts.toArray) os) :=
  ⟨holds_grow encStr _ os g 0 _ (by simpa [putRow, mapBlock, Sort.ahead] using hlt) (holds_putRow encStr _ g 0 _ _ (holds_ahead encStr wr nn g 0 _ hH) (by simpa using hl)),
   hB.grown (grownBy_sorted _) hB.size (fun j hj => by cases hj; exact hg)⟩
set_option maxHeartbeats 2000000 in
set_option maxRecDepth 100000 in
theorem data_any (es : List Elm) (v : Value) (w : World) (hS : Std w) (h : ElmsAt w v es) (hf : ElmsFit es) :
    Calls Tryz.prog 52 #[v] w fun e w' => e = .returned (.bool (dataB es)) ∧ Below w.heap.size w w' := by
  obtain ⟨i0, hi, hz0, hz1, hz2⟩ := info_parts info9
  obtain ⟨hlen, hfit⟩ := hf
  obtain ⟨a, c, rfl, hmem⟩ := h
  have HM := Lib.hid hmem
  have HF := Lib.hid hfit
  clear hmem hfit
  obtain ⟨n, hn⟩ : ∃ n, es.length = n := ⟨_, rfl⟩
  have HN := Lib.hid hn
  rw [hn] at hlen ⊢
  clear hn
  go_enter Tryz.func52, Tryz.ntmps52
  go_wp2_with (at_make; refine wpList_make_full _ rfl _ _ 55 rfl w.heap.size 9 i0 (.string ⟨#[]⟩) 1 Tryz.underlying55 hi hz0 hz1 _ _ _ _ n rfl rfl rfl rfl ?b2 ?b3 (Nat.le_refl _) ?_)
  case b2 => rw [hz2]; omega
  case b3 => unfold maxLen; omega
  intro w0 hown0 hgrow0
  rw [made_row] at hown0
  have hB0 : Below w.heap.size w w0 := (Below.refl _ _).grown hgrow0 (Nat.le_refl _) (fun k h => by cases h)
  have hz0' : w.heap.size < w0.heap.size := (hown0.lt _ rfl).2
  clear hgrow0 hz0 hz2
  go_wp2
  go_loopw [11] (fun i wr => ∃ k : Nat, k ≤ n ∧ i = .int .i64 k ∧ (∀ y ∈ es.take k, okE y = true) ∧ wr.ownsRow w.heap.size 9 1 (.slice (some ⟨w.heap.size, 0, none⟩) n n) n (rowS es k n) ∧ Below w.heap.size w wr ∧ w.heap.size < wr.heap.size) (fun i _ => n - (intOf i).toNat)
  case atStart => exact ⟨0, by omega, rfl, by simp, by simpa [rowS] using hown0, hB0, hz0'⟩
  case round =>
    obtain ⟨k, hk, rfl, hall, hown, hB, hlt0⟩ := hrel
    have HA := Lib.hid hall
    clear hall hown0 hB0 hz0'
    by_cases hlt : k < n
    · obtain ⟨x, hx⟩ : ∃ x, es[k]? = some x := ⟨es[k]'(by rw [HN.out]; exact hlt), List.getElem?_eq_getElem _⟩
      obtain ⟨b, o, ha, hb, hc⟩ := HM.out (by rw [HN.out]; omega)
      subst ha
      obtain ⟨lv, c1, c2, hp⟩ := hc k x hx
      obtain ⟨la, ln, lc, hlv⟩ : ∃ a n c, lv = .slice a n c := by obtain ⟨a, c, h, _⟩ := hp; exact ⟨_, _, _, h⟩
      subst hlv
      have d1 : wr.cell? ⟨b, o + 2 * k, none⟩ = some (.string x.1) := (hB.cell (p := ⟨b, _, none⟩) hb).trans c1
      have d2 : wr.cell? ⟨b, o + 2 * k + 1, none⟩ = some (.slice la ln lc) := (hB.cell (p := ⟨b, _, none⟩) hb).trans c2
      have hxm := List.mem_of_getElem? hx
      have hfx := HF.out x hxm
      have hSr := hS.below hB
      have hpr := hp.below hB
      obtain ⟨x1, x2⟩ := x
      obtain ⟨f1, f2, f3⟩ := hfx
      simp only at d1 d2 f1 f2 f3 hpr
      have HX := Lib.hid hx
      have e1 : o + k * 2 = o + 2 * k := by omega
      have hBa : Below wr.heap.size wr (wr.alloc (.cells #[.string x1, .slice la ln lc] 58)) := (Below.refl _ _).alloc (Nat.le_refl _) _
      have HNm := Lib.hid (name_any x1 (wr.alloc (.cells #[.string x1, .slice la ln lc] 58)) (by omega))
      have HOK := Lib.hid (show okE (x1, x2) = (nameB x1.data.toList && !(x2.any wrongB)) from rfl)
      have HE := Lib.hid (show okE (x1, x2) = false → dataB es = false from fun h => by
        unfold dataB
        have : es.all okE = false := by
          rw [← Bool.not_eq_true, List.all_eq_true]
          intro hh
          rw [hh _ hxm] at h
          cases h
        rw [this, Bool.false_and])
      obtain ⟨b1, hb1⟩ : ∃ b1, nameB x1.data.toList = b1 := ⟨_, rfl⟩
      rw [hb1] at HNm HOK
      clear hc c1 c2 hp hx hxm hb1
      go_wp2_with fail
      refine HNm.out.mono ?_
      rintro e w2 ⟨rfl, hb2⟩
      have hBB := hBa.trans (hb2.mono hBa.size)
      obtain ⟨hc2, hf2⟩ := bcell hb2
      have hz2 : wr.heap.size < w2.heap.size := by have := hb2.size; simp at this; omega
      have B2 := hB.trans (hBB.mono hB.size)
      clear hb2 hBa
      cases b1 with
      | false =>
        have HD := Lib.hid (HE.out (by rw [HOK.out]; rfl))
        go_wp2
        go_ret
        exact ⟨by rw [HD.out]; rfl, B2⟩
      | true =>
        have hS2 := hSr.below hBB
        have HW := Lib.hid (any_wrong x2 _ w2 (hpr.below hBB) f2 hS2 f3)
        obtain ⟨b3, hb3⟩ : ∃ b3, x2.any wrongB = b3 := ⟨_, rfl⟩
        rw [hb3] at HW HOK
        clear hb3 hpr
        go_wp2_with fail
        refine HW.out.mono ?_
        rintro e w3 ⟨rfl, hb3⟩
        have hBC := hBB.trans (hb3.mono hBB.size)
        have B3 := hB.trans (hBC.mono hB.size)
        obtain ⟨hc3, hf3⟩ := bcell hb3
        have hz3 : wr.heap.size < w3.heap.size := Nat.lt_of_lt_of_le hz2 hb3.size
        cases b3 with
        | true =>
          have HD := Lib.hid (HE.out (by rw [HOK.out]; rfl))
          go_wp2
          go_ret
          exact ⟨by rw [HD.out]; rfl, B3⟩
        | false =>
          have hown3 := owns_below hown hlt0 hBC
          have s1 : w3.cell? ⟨wr.heap.size, 0, none⟩ = some (.string x1) := by simp [hc3, hc2, hz2, go_sem]
          have s2 : w3.cell? ⟨w.heap.size, k, none⟩ = some (.string ⟨#[]⟩) := by
            rw [hown3.cellAt k (by omega)]
            unfold rowS
            rw [List.getElem?_append_right (by rw [List.length_map, List.length_take]; omega)]
            rw [List.length_map, List.length_take, List.getElem?_replicate]
            rw [if_pos (by rw [HN.out]; omega)]
          have s3 := hown3.frozenAt k
          have hst := hown3.stored k (.string x1)
          rw [rowS_set HX.out hlt] at hst
          have HST := Lib.hid hst
          have HALL := Lib.hid (show ∀ y ∈ es.take (k + 1), okE y = true by
            intro y hy
            rw [List.take_add_one, HX.out, List.mem_append] at hy
            rcases hy with hy | hy
            · exact HA.out y hy
            · simp at hy
              rw [hy, HOK.out]
              rfl)
          have BS : Below w.heap.size w (w3.setCell ⟨w.heap.size, k, none⟩ (.string x1)) := B3.setCell (p := ⟨w.heap.size, k, none⟩) (Nat.le_refl _) _
          have hz4 : w.heap.size < w3.heap.size := by omega
          clear hst hown hown3
          go_wp2
          go_roundw
          case rel => exact ⟨k + 1, by omega, by go_num, HALL.out, HST.out.1, BS, by simpa using hz4⟩
          case measure => simp [intOf]; omega
    · obtain rfl : k = n := by omega
      have HD := Lib.hid (show dataB es = decide ((es.map fun e => e.1.data.toList).Nodup) by
        unfold dataB
        rw [List.all_eq_true.2 (fun y hy => HA.out y (by rw [← HN.out, List.take_length]; exact hy)), Bool.true_and])
      rw [rowS_full es HN.out] at hown
      have hl0 : (es.map fun e => e.1.data.toList).length = k := by rw [List.length_map]; exact HN.out
      obtain ⟨ss, hss⟩ : ∃ ss, (es.map fun e => e.1.data.toList) = ss := ⟨_, rfl⟩
      rw [hss] at hown HD hl0
      have hH := sorted_fits hown hl0
      have hsort := Tryz.slices_Sort_string w.heap.size 0 k ss wr hH hlt0 (by omega)
      rw [hl0] at hsort
      have HS := Lib.hid hsort
      have HH := Lib.hid hH
      have HC := Lib.hid (compact_sorted ss)
      have HL := Lib.hid hl0
      clear hsort hH hown hss hl0 hlt
      have h2 : (ss.mergeSort fun x y => decide (x ≤ y)).length = ss.length := List.length_mergeSort ss
      obtain ⟨ts, hts⟩ : ∃ ts, (ss.mergeSort fun x y => decide (x ≤ y)) = ts := ⟨_, rfl⟩
      rw [hts] at HS HC h2
      clear hts
      go_wp2_with fail
      refine HS.out.mono ?_
      rintro e w2 ⟨rfl, nn, os, rfl⟩
      obtain ⟨hH2, hB2⟩ := after_sort (nn := nn) (os := os) h2 HH.out hB (Nat.le_refl _) hlt0
      generalize (grow (putRow encStr (Sort.ahead wr nn) w.heap.size 0 ts.toArray) os) = w2 at hH2 hB2 ⊢
      have hcomp := Tryz.slices_Compact_string w.heap.size 0 k ts w2 hH2 (by rw [h2, HL.out]; omega) (by rw [h2, HL.out]; exact Nat.le_refl _)
      rw [h2, HL.out] at hcomp
      have HCM := Lib.hid hcomp
      have hcl := Lib.compact_length_le ts
      obtain ⟨m, hm⟩ : ∃ m, (Lib.compact ts).length = m := ⟨_, rfl⟩
      rw [hm] at HCM HC hcl
      have hm2 : m ≤ 17592186044416 := by rw [h2, HL.out] at hcl; omega
      have HM2 := Lib.hid hm
      clear hcomp hH2 hm h2 hcl
      go_wp2_with fail
      refine HCM.out.mono ?_
      rintro e w3 ⟨rfl, q, rfl⟩
      have hB3 := Lib.below_putRow (enc := encStr) (q := q) (d := (Lib.compact ts ++ List.replicate (k - m) []).toArray) hB2 (Nat.le_refl w.heap.size)
      generalize (putRow encStr (Sort.ahead w2 q) w.heap.size 0 (Lib.compact ts ++ List.replicate (k - m) []).toArray) = w3 at hB3 ⊢
      have hq : (((m : Nat) : Int) == ((k : Nat) : Int)) = decide (m = k) := by
        rw [Bool.eq_iff_iff, beq_iff_eq, decide_eq_true_iff]; omega
      have HR := Lib.hid (show decide (m = k) = dataB es by rw [HD.out, ← HC.out, HL.out])
      clear HC HD
      go_wp2
      go_ret
      exact ⟨by rw [← HR.out]; rfl, hB3⟩
end Go.Proofs.YtmmghppjhmdikaaGreatDoor
