/- The texts Nodup, Data, Right, Until, one behind the other. -/
import Derived.Test.YtnaijahhogndjaaGreatDoorB1
import Derived.Lib.SlicesCompact
import Derived.Test.YtnaijahhogndjaaGreatDoorB3
import Derived.Sort.OwnSorted
import Derived.Sort.Grow
import Derived.Lib.OwnBridge
import Derived.OwnWalk
/- Sorted and compacted, a list of texts is as long as it was just if none is there twice. No program is spoken of. -/
namespace Go.Proofs.YtnaijahhogndjaaGreatDoor
open Go

theorem le_tr (a b c : List UInt8) (h1 : decide (a ≤ b) = true) (h2 : decide (b ≤ c) = true) : decide (a ≤ c) = true := by
  rw [decide_eq_true_iff] at *
  exact List.le_trans h1 h2
theorem le_tot (a b : List UInt8) : (decide (a ≤ b) || decide (b ≤ a)) = true := by
  rw [Bool.or_eq_true, decide_eq_true_iff, decide_eq_true_iff]
  exact List.le_total a b
theorem filter_full {α : Type} (p : α → Bool) : ∀ l : List α, (l.filter p).length = l.length ↔ ∀ x ∈ l, p x = true
  | [] => by simp
  | x :: l => by
    have ih := filter_full p l
    have hle := List.length_filter_le p l
    by_cases hx : p x = true
    · rw [List.filter_cons_of_pos hx]
      simp only [List.length_cons, List.mem_cons, forall_eq_or_imp, hx, true_and]
      rw [← ih]; omega
    · rw [List.filter_cons_of_neg hx]
      rw [List.length_cons]
      exact ⟨fun h => by omega, fun h => absurd (h x (by simp)) hx⟩
theorem sorted_nodup {l : List (List UInt8)} (hs : l.Pairwise fun a b => decide (a ≤ b) = true) :
    (∀ j, 0 < j → (hj : j < l.length) → l[j] ≠ l[j - 1]) ↔ l.Nodup := by
  constructor
  · intro h
    unfold List.Nodup
    rw [List.pairwise_iff_getElem] at hs ⊢
    intro i j hi hj hij he
    have h1 := hs i (j - 1)
    have h2 := h j (by omega) hj
    apply h2
    have lo : l[j - 1] ≤ l[j] := by
      have := hs (j - 1) j (by omega) hj (by omega)
      exact of_decide_eq_true this
    have up : l[j] ≤ l[j - 1] := by
      rw [← he]
      rcases Nat.lt_or_ge i (j - 1) with hlt | hge
      · exact of_decide_eq_true (hs i (j - 1) hi (by omega) hlt)
      · have : j - 1 = i := by omega
        simp only [this]
        exact List.le_refl _
    exact List.le_antisymm up lo
  · intro h j h0 hj he
    unfold List.Nodup at h
    rw [List.pairwise_iff_getElem] at h
    exact h (j - 1) j (by omega) hj (by omega) he.symm
theorem compact_full (l : List (List UInt8)) : (Lib.compact l).length = l.length ↔ ∀ j, 0 < j → (hj : j < l.length) → l[j] ≠ l[j - 1] := by
  unfold Lib.compact Lib.compactUpTo
  rw [List.length_map]
  have e : ∀ n, ((List.range n).filter (Lib.keeps l.toArray)).length = n ↔ ∀ j ∈ List.range n, Lib.keeps l.toArray j = true := fun n => by
    have := filter_full (Lib.keeps l.toArray) (List.range n)
    rwa [List.length_range] at this
  rw [e]
  constructor
  · intro h j h0 hj he
    have := h j (List.mem_range.2 hj)
    rw [Lib.keeps_neg h0 (by rw [getElem!_pos l.toArray j (by simpa using hj), getElem!_pos l.toArray (j - 1) (by simp; omega)]; simpa using he)] at this
    cases this
  · intro h j hj
    have hj' := List.mem_range.1 hj
    rcases Nat.eq_zero_or_pos j with rfl | h0
    · exact Lib.keeps_lt_one _ 0 (by decide)
    · exact Lib.keeps_pos (by rw [getElem!_pos l.toArray j (by simpa using hj'), getElem!_pos l.toArray (j - 1) (by simp; omega)]; simpa using h j h0 hj')
theorem compact_sorted (ss : List (List UInt8)) : decide ((Lib.compact (ss.mergeSort fun x y => decide (x ≤ y))).length = ss.length) = decide ss.Nodup := by
  rw [decide_eq_decide]
  have hl : (ss.mergeSort fun x y => decide (x ≤ y)).length = ss.length := List.length_mergeSort ss
  have hp : (ss.mergeSort fun x y => decide (x ≤ y)).Perm ss := List.mergeSort_perm ss _
  have hs : (ss.mergeSort fun x y => decide (x ≤ y)).Pairwise fun a b => decide (a ≤ b) = true := List.pairwise_mergeSort le_tr le_tot ss
  rw [← hp.nodup_iff, ← sorted_nodup hs, ← compact_full, hl]
end Go.Proofs.YtnaijahhogndjaaGreatDoor
/- Whether elements may be: names and values that may be, and no Id twice. Conditions: the tables stand; sizes. -/
namespace Go.Proofs.YtnaijahhogndjaaGreatDoor
open Go.ChangeShapes Go.WideShapes Go.ChangeAt Go.RowKit Go.Sort

def okE (e : Elm) : Bool := nameB e.1.data.toList && !(e.2.any wrongB)
def dataB (es : List Elm) : Bool := es.all okE && decide ((es.map fun e => e.1.data.toList).Nodup)
/-- Texts and values of sizes that a machine holds. -/
def ElmsFit (es : List Elm) : Prop := es.length ≤ 17592186044416 ∧ ∀ e ∈ es, e.1.size ≤ 140737488355328 ∧ e.2.length ≤ 17592186044416 ∧ ∀ p ∈ e.2, p.1.size ≤ 140737488355328 ∧ p.2.size ≤ 140737488355328
def rowS (es : List Elm) (k n : Nat) : List Value := ((es.take k).map fun e => Value.string e.1) ++ List.replicate (n - k) (.string ⟨#[]⟩)
theorem rowS_set {es : List Elm} {k n : Nat} {x : Elm} (hx : es[k]? = some x) (hk : k < n) : (rowS es k n).set k (.string x.1) = rowS es (k + 1) n := by
  have hl : k < es.length := by
    rcases Nat.lt_or_ge k es.length with h | h
    · exact h
    · rw [List.getElem?_eq_none h] at hx; cases hx
  have h1 : ((es.take k).map fun e => Value.string e.1).length = k := by rw [List.length_map, List.length_take]; omega
  unfold rowS
  rw [List.set_append_right _ _ (by omega), h1, Nat.sub_self, List.take_add_one, hx, show n - k = (n - (k + 1)) + 1 by omega, List.replicate_succ, List.set_cons_zero]
  simp
theorem owns_below {W W' : World} {base : Nat} {e : TypeId} {size n g cap : Nat} {xs : List Value} (h : W.ownsRow base e size (.slice (some ⟨g, 0, none⟩) n cap) n xs) (hg : g < W.heap.size) (hb : Below W.heap.size W W') :
    W'.ownsRow base e size (.slice (some ⟨g, 0, none⟩) n cap) n xs := by
  refine ⟨h.1, ?_⟩
  rcases h.2 with h0 | ⟨g', cap', cur, hv, hbase, hh, h1, h2, h3, h4⟩
  · exact .inl h0
  · cases hv
    exact .inr ⟨g, cap, cur, rfl, hbase, by rw [hb.block g hg]; exact hh, h1, h2, h3, h4⟩
theorem info9 : (Tryz.prog.info? 9).map (fun i => (i.zero, i.size, i.bytes)) = some (some (.string ⟨#[]⟩), 1, 16) := by kernel_rfl
theorem made_row (n : Nat) : (madeCells #[Value.string ⟨#[]⟩] n).toList = List.replicate n (.string ⟨#[]⟩) := by
  unfold madeCells
  rw [Array.toList_map, List.eq_replicate_iff]
  refine ⟨by simp, fun b hb => ?_⟩
  rw [List.mem_map] at hb
  obtain ⟨k, _, rfl⟩ := hb
  have : k % (#[Value.string ⟨#[]⟩] : Array Value).size = 0 := Nat.mod_one k
  rw [this]
  rfl
theorem sorted_fits {w wr : World} {n : Nat} {ss : List (List UInt8)} (hown : wr.ownsRow w.heap.size 9 1 (.slice (some ⟨w.heap.size, 0, none⟩) n n) n (ss.map encStr)) (hl : ss.length = n) : Holds encStr wr w.heap.size 0 ss.toArray := by
  intro j hj
  have hj' : j < ss.length := by simpa using hj
  refine ⟨?_, by rw [Nat.zero_add]; exact hown.frozenAt j⟩
  rw [Nat.zero_add, hown.cellAt j (by omega), List.getElem?_map, List.getElem?_eq_getElem hj', getElem!_pos ss.toArray j hj]
  simp
theorem rowS_full (es : List Elm) {n : Nat} (hn : es.length = n) : rowS es n n = (es.map fun e => e.1.data.toList).map encStr := by
  unfold rowS
  rw [← hn, List.take_length, Nat.sub_self, List.replicate_zero, List.append_nil, List.map_map]
  apply List.map_congr_left
  intro e _
  show Value.string e.1 = .string ⟨e.1.data.toList.toArray⟩
  rw [show (⟨e.1.data.toList.toArray⟩ : ByteArray) = e.1 from bytes_self e.1]
theorem after_sort {w wr : World} {g nn : Nat} {os : Array Obj} {ss ts : List (List UInt8)} (hl : ts.length = ss.length) (hH : Holds encStr wr g 0 ss.toArray) (hB : Below w.heap.size w wr) (hg : w.heap.size ≤ g) (hlt : g < wr.heap.size) :
    Holds encStr (grow (putRow encStr (Sort.ahead wr nn) g 0 ts.toArray) os) g 0 ts.toArray ∧ Below w.heap.size w (grow (putRow encStr (Sort.ahead wr nn) g 0 ts.toArray) os) :=
  ⟨holds_grow encStr _ os g 0 _ (by simpa [putRow, mapBlock, Sort.ahead] using hlt) (holds_putRow encStr _ g 0 _ _ (holds_ahead encStr wr nn g 0 _ hH) (by simpa using hl)),
   hB.grown (grownBy_sorted _) hB.size (fun j hj => by cases hj; exact hg)⟩
set_option maxHeartbeats 2000000 in
set_option maxRecDepth 100000 in
theorem data_any (es : List Elm) (v : Value) (w : World) (hS : Std w) (h : ElmsAt w v es) (hf : ElmsFit es) :
    Calls Tryz.prog 43 #[v] w fun e w' => e = .returned (.bool (dataB es)) ∧ Below w.heap.size w w' := by
  obtain ⟨i0, hi, hz0, hz1, hz2⟩ := info_parts info9
  obtain ⟨hlen, hfit⟩ := hf
  obtain ⟨a, c, rfl, hmem⟩ := h
  have HM := Lib.hid hmem
  have HF := Lib.hid hfit
  clear hmem hfit
  obtain ⟨n, hn⟩ : ∃ n, es.length = n := ⟨_, rfl⟩
  have HN := Lib.hid hn
  rw [hn] at hlen ⊢
  clear hn
  go_enter Tryz.func43, Tryz.ntmps43
  go_wp2_with (at_make; refine wpList_make_full _ rfl _ _ 91 rfl w.heap.size 9 i0 (.string ⟨#[]⟩) 1 Tryz.underlying91 hi hz0 hz1 _ _ _ _ n rfl rfl rfl rfl ?b2 ?b3 (Nat.le_refl _) ?_)
  case b2 => rw [hz2]; omega
  case b3 => unfold maxLen; omega
  intro w0 hown0 hgrow0
  rw [made_row] at hown0
  have hB0 : Below w.heap.size w w0 := (Below.refl _ _).grown hgrow0 (Nat.le_refl _) (fun k h => by cases h)
  have hz0' : w.heap.size < w0.heap.size := (hown0.lt _ rfl).2
  clear hgrow0 hz0 hz2
  go_wp2
  go_loopw [11] (fun i wr => ∃ k : Nat, k ≤ n ∧ i = .int .i64 k ∧ (∀ y ∈ es.take k, okE y = true) ∧ wr.ownsRow w.heap.size 9 1 (.slice (some ⟨w.heap.size, 0, none⟩) n n) n (rowS es k n) ∧ Below w.heap.size w wr ∧ w.heap.size < wr.heap.size) (fun i _ => n - (intOf i).toNat)
  case atStart => exact ⟨0, by omega, rfl, by simp, by simpa [rowS] using hown0, hB0, hz0'⟩
  case round =>
    obtain ⟨k, hk, rfl, hall, hown, hB, hlt0⟩ := hrel
    have HA := Lib.hid hall
    clear hall hown0 hB0 hz0'
    by_cases hlt : k < n
    · obtain ⟨x, hx⟩ : ∃ x, es[k]? = some x := ⟨es[k]'(by rw [HN.out]; exact hlt), List.getElem?_eq_getElem _⟩
      obtain ⟨b, o, ha, hb, hc⟩ := HM.out (by rw [HN.out]; omega)
      subst ha
      obtain ⟨lv, c1, c2, hp⟩ := hc k x hx
      obtain ⟨la, ln, lc, hlv⟩ : ∃ a n c, lv = .slice a n c := by obtain ⟨a, c, h, _⟩ := hp; exact ⟨_, _, _, h⟩
      subst hlv
      have d1 : wr.cell? ⟨b, o + 2 * k, none⟩ = some (.string x.1) := (hB.cell (p := ⟨b, _, none⟩) hb).trans c1
      have d2 : wr.cell? ⟨b, o + 2 * k + 1, none⟩ = some (.slice la ln lc) := (hB.cell (p := ⟨b, _, none⟩) hb).trans c2
      have hxm := List.mem_of_getElem? hx
      have hfx := HF.out x hxm
      have hSr := hS.below hB
      have hpr := hp.below hB
      obtain ⟨x1, x2⟩ := x
      obtain ⟨f1, f2, f3⟩ := hfx
      simp only at d1 d2 f1 f2 f3 hpr
      have HX := Lib.hid hx
      have e1 : o + k * 2 = o + 2 * k := by omega
      have hBa : Below wr.heap.size wr (wr.alloc (.cells #[.string x1, .slice la ln lc] 52)) := (Below.refl _ _).alloc (Nat.le_refl _) _
      have HNm := Lib.hid (name_any x1 (wr.alloc (.cells #[.string x1, .slice la ln lc] 52)) (by omega))
      have HOK := Lib.hid (show okE (x1, x2) = (nameB x1.data.toList && !(x2.any wrongB)) from rfl)
      have HE := Lib.hid (show okE (x1, x2) = false → dataB es = false from fun h => by
        unfold dataB
        have : es.all okE = false := by
          rw [← Bool.not_eq_true, List.all_eq_true]
          intro hh
          rw [hh _ hxm] at h
          cases h
        rw [this, Bool.false_and])
      obtain ⟨b1, hb1⟩ : ∃ b1, nameB x1.data.toList = b1 := ⟨_, rfl⟩
      rw [hb1] at HNm HOK
      clear hc c1 c2 hp hx hxm hb1
      go_wp2_with fail
      refine HNm.out.mono ?_
      rintro e w2 ⟨rfl, hb2⟩
      have hBB := hBa.trans (hb2.mono hBa.size)
      obtain ⟨hc2, hf2⟩ := bcell hb2
      have hz2 : wr.heap.size < w2.heap.size := by have := hb2.size; simp at this; omega
      have B2 := hB.trans (hBB.mono hB.size)
      clear hb2 hBa
      cases b1 with
      | false =>
        have HD := Lib.hid (HE.out (by rw [HOK.out]; rfl))
        go_wp2
        go_ret
        exact ⟨by rw [HD.out]; rfl, B2⟩
      | true =>
        have hS2 := hSr.below hBB
        have HW := Lib.hid (any_wrong x2 _ w2 (hpr.below hBB) f2 hS2 f3)
        obtain ⟨b3, hb3⟩ : ∃ b3, x2.any wrongB = b3 := ⟨_, rfl⟩
        rw [hb3] at HW HOK
        clear hb3 hpr
        go_wp2_with fail
        refine HW.out.mono ?_
        rintro e w3 ⟨rfl, hb3⟩
        have hBC := hBB.trans (hb3.mono hBB.size)
        have B3 := hB.trans (hBC.mono hB.size)
        obtain ⟨hc3, hf3⟩ := bcell hb3
        have hz3 : wr.heap.size < w3.heap.size := Nat.lt_of_lt_of_le hz2 hb3.size
        cases b3 with
        | true =>
          have HD := Lib.hid (HE.out (by rw [HOK.out]; rfl))
          go_wp2
          go_ret
          exact ⟨by rw [HD.out]; rfl, B3⟩
        | false =>
          have hown3 := owns_below hown hlt0 hBC
          have s1 : w3.cell? ⟨wr.heap.size, 0, none⟩ = some (.string x1) := by simp [hc3, hc2, hz2, go_sem]
          have s2 : w3.cell? ⟨w.heap.size, k, none⟩ = some (.string ⟨#[]⟩) := by
            rw [hown3.cellAt k (by omega)]
            unfold rowS
            rw [List.getElem?_append_right (by rw [List.length_map, List.length_take]; omega)]
            rw [List.length_map, List.length_take, List.getElem?_replicate]
            rw [if_pos (by rw [HN.out]; omega)]
          have s3 := hown3.frozenAt k
          have hst := hown3.stored k (.string x1)
          rw [rowS_set HX.out hlt] at hst
          have HST := Lib.hid hst
          have HALL := Lib.hid (show ∀ y ∈ es.take (k + 1), okE y = true by
            intro y hy
            rw [List.take_add_one, HX.out, List.mem_append] at hy
            rcases hy with hy | hy
            · exact HA.out y hy
            · simp at hy
              rw [hy, HOK.out]
              rfl)
          have BS : Below w.heap.size w (w3.setCell ⟨w.heap.size, k, none⟩ (.string x1)) := B3.setCell (p := ⟨w.heap.size, k, none⟩) (Nat.le_refl _) _
          have hz4 : w.heap.size < w3.heap.size := by omega
          clear hst hown hown3
          go_wp2
          go_roundw
          case rel => exact ⟨k + 1, by omega, by go_num, HALL.out, HST.out.1, BS, by simpa using hz4⟩
          case measure => simp [intOf]; omega
    · obtain rfl : k = n := by omega
      have HD := Lib.hid (show dataB es = decide ((es.map fun e => e.1.data.toList).Nodup) by
        unfold dataB
        rw [List.all_eq_true.2 (fun y hy => HA.out y (by rw [← HN.out, List.take_length]; exact hy)), Bool.true_and])
      rw [rowS_full es HN.out] at hown
      have hl0 : (es.map fun e => e.1.data.toList).length = k := by rw [List.length_map]; exact HN.out
      obtain ⟨ss, hss⟩ : ∃ ss, (es.map fun e => e.1.data.toList) = ss := ⟨_, rfl⟩
      rw [hss] at hown HD hl0
      have hH := sorted_fits hown hl0
      have hsort := Tryz.slices_Sort_string w.heap.size 0 k ss wr hH hlt0 (by omega)
      rw [hl0] at hsort
      have HS := Lib.hid hsort
      have HH := Lib.hid hH
      have HC := Lib.hid (compact_sorted ss)
      have HL := Lib.hid hl0
      clear hsort hH hown hss hl0 hlt
      have h2 : (ss.mergeSort fun x y => decide (x ≤ y)).length = ss.length := List.length_mergeSort ss
      obtain ⟨ts, hts⟩ : ∃ ts, (ss.mergeSort fun x y => decide (x ≤ y)) = ts := ⟨_, rfl⟩
      rw [hts] at HS HC h2
      clear hts
      go_wp2_with fail
      refine HS.out.mono ?_
      rintro e w2 ⟨rfl, nn, os, rfl⟩
      obtain ⟨hH2, hB2⟩ := after_sort (nn := nn) (os := os) h2 HH.out hB (Nat.le_refl _) hlt0
      generalize (grow (putRow encStr (Sort.ahead wr nn) w.heap.size 0 ts.toArray) os) = w2 at hH2 hB2 ⊢
      have hcomp := Tryz.slices_Compact_string w.heap.size 0 k ts w2 hH2 (by rw [h2, HL.out]; omega) (by rw [h2, HL.out]; exact Nat.le_refl _)
      rw [h2, HL.out] at hcomp
      have HCM := Lib.hid hcomp
      have hcl := Lib.compact_length_le ts
      obtain ⟨m, hm⟩ : ∃ m, (Lib.compact ts).length = m := ⟨_, rfl⟩
      rw [hm] at HCM HC hcl
      have hm2 : m ≤ 17592186044416 := by rw [h2, HL.out] at hcl; omega
      have HM2 := Lib.hid hm
      clear hcomp hH2 hm h2 hcl
      go_wp2_with fail
      refine HCM.out.mono ?_
      rintro e w3 ⟨rfl, q, rfl⟩
      have hB3 := Lib.below_putRow (enc := encStr) (q := q) (d := (Lib.compact ts ++ List.replicate (k - m) []).toArray) hB2 (Nat.le_refl w.heap.size)
      generalize (putRow encStr (Sort.ahead w2 q) w.heap.size 0 (Lib.compact ts ++ List.replicate (k - m) []).toArray) = w3 at hB3 ⊢
      have hq : (((m : Nat) : Int) == ((k : Nat) : Int)) = decide (m = k) := by
        rw [Bool.eq_iff_iff, beq_iff_eq, decide_eq_true_iff]; omega
      have HR := Lib.hid (show decide (m = k) = dataB es by rw [HD.out, ← HC.out, HL.out])
      clear HC HD
      go_wp2
      go_ret
      exact ⟨by rw [← HR.out]; rfl, hB3⟩
end Go.Proofs.YtnaijahhogndjaaGreatDoor
/- Which messages are right. Conditions: the tables stand; sizes. -/
namespace Go.Proofs.YtnaijahhogndjaaGreatDoor
open Go.ChangeShapes Go.WideShapes Go.ChangeAt Go.RowKit
open Go.Proofs.YtnaijahhogndjaaGreatDoor.Cal (clamp DateIs rightB nanosI)

/-- A message, as the law's argument holds it. -/
structure Ev where
  grave : Int
  from' : Int
  timed : Bool
  at' : Int
  host : ByteArray
  app : ByteArray
  proc : ByteArray
  id : ByteArray
  data : List Elm
  text : ByteArray
abbrev Ev.val (e : Ev) (dv : Value) : Value := .agg #[.int .i64 e.grave, .int .i64 e.from', .bool e.timed, .int .i64 e.at', .string e.host, .string e.app, .string e.proc, .string e.id, dv, .string e.text]
/-- The message lies in this world; its parts have sizes that a machine holds. -/
structure Ev.In (e : Ev) (w : World) (dv : Value) : Prop where
  data : ElmsAt w dv e.data
  fits : ElmsFit e.data
  host : e.host.size ≤ 140737488355328
  app : e.app.size ≤ 140737488355328
  proc : e.proc.size ≤ 140737488355328
  id : e.id.size ≤ 140737488355328
  text : e.text.size ≤ 140737488355328
theorem Ev.In.below {e : Ev} {w w' : World} {dv : Value} (h : e.In w dv) (hb : Below w.heap.size w w') : e.In w' dv :=
  ⟨h.data.below hb, h.fits, h.host, h.app, h.proc, h.id, h.text⟩
theorem ElmsAt.shape {w : World} {dv : Value} {es : List Elm} (h : ElmsAt w dv es) : ∃ a c, dv = .slice a es.length c := by
  obtain ⟨a, c, h, _⟩ := h
  exact ⟨a, c, h⟩

def timeB (timed : Bool) (a : Int) : Bool := if timed = true then decide (clamp a - clamp a % 1000 = a) else decide (a = 0)
def wordsB (e : Ev) : Bool := wordB e.host.data.toList 255 && (wordB e.app.data.toList 48 && (wordB e.proc.data.toList 128 && wordB e.id.data.toList 32))
def rightE (e : Ev) : Int :=
  if ¬ ((0 ≤ e.grave ∧ e.grave ≤ 7) ∧ (0 ≤ e.from' ∧ e.from' ≤ 23) ∧ timeB e.timed e.at' = true) then 1
  else if ¬ (wordsB e = true ∧ dataB e.data = true ∧ Lib.validD e.text.data.toList = true) then 3
  else if 64 < e.data.length ∨ e.data.any longB = true then 4
  else 0

set_option maxRecDepth 100000 in
theorem time_any (e : Ev) (dv : Value) (w : World) (hS : Std w) (h : ∃ a n c, dv = .slice a n c) :
    Calls Tryz.prog 41 #[e.val dv] w fun r w' => r = .returned (.bool (timeB e.timed e.at')) ∧ Below w.heap.size w w' := by
  obtain ⟨la, ln, lc, rfl⟩ := h
  obtain ⟨g, f, t, a, ho, ap, pr, id, da, tx⟩ := e
  have hb : ∀ tt, Below w.heap.size w (w.alloc (.cells #[.int .i64 g, .int .i64 f, .bool tt, .int .i64 a, .string ho, .string ap, .string pr, .string id, .slice la ln lc, .string tx] 24)) := fun _ => (Below.refl _ _).alloc (Nat.le_refl _) _
  have hS1 := fun tt => hS.below (hb tt)
  unfold timeB
  show Calls _ _ _ _ fun r w' => r = .returned (.bool (if t = true then decide (clamp a - clamp a % 1000 = a) else decide (a = 0))) ∧ _
  cases t with
  | false =>
    have hB := hb false
    clear hb hS1
    rw [if_neg (by decide)]
    have hq : (a == 0) = decide (a = 0) := by rw [Bool.eq_iff_iff, beq_iff_eq, decide_eq_true_iff]
    go_enter Tryz.func41, Tryz.ntmps41
    go_wp2
    go_ret
    exact ⟨rfl, hB⟩
  | true =>
    have hB := hb true
    have hT := (hS1 true).1
    rw [if_pos rfl]
    clear hb hS1
    go_enter Tryz.func41, Tryz.ntmps41
    go_wp2_with fail
    refine (Cal.date_any a _ hT).mono ?_
    rintro r w2 ⟨y, m, d, hh, i, s, k, rfl, hD, hb2⟩
    have B2 := hB.trans (hb2.mono hB.size)
    have hT2 := hT.below hb2
    obtain ⟨hc2, hf2⟩ := bcell hb2
    have hz2 : w.heap.size < w2.heap.size := by have := hb2.size; simp at this; omega
    have HD := Lib.hid hD
    clear hb2 hD
    go_wp2_with fail
    refine (Cal.nanos_yes y m d hh i s k 0 w2 hT2 (HD.out).1).mono ?_
    rintro r w3 ⟨rfl, hb3⟩
    obtain ⟨hc3, hf3⟩ := bcell hb3
    have B3 := B2.trans (hb3.mono B2.size)
    have HN := Lib.hid (HD.out).2
    generalize nanosI y m d hh i s k 0 = N at HN ⊢
    have hq : (N == a) = decide (N = a) := by rw [Bool.eq_iff_iff, beq_iff_eq, decide_eq_true_iff]
    go_wp2
    go_ret
    exact ⟨by rw [← HN.out]; rfl, B3⟩
theorem word_t {s : ByteArray} {most : Int} {b : Bool} {w : World} (h : wordB s.data.toList most = b) (hs : s.size ≤ 140737488355328) :
    Calls Tryz.prog 72 #[.string s, .int .i64 most] w fun e w' => e = .returned (.bool b) ∧ w' = w := by
  rw [← h]; exact word_any s most w (by omega)
set_option maxRecDepth 100000 in
theorem words_any (e : Ev) (dv : Value) (w : World) (h : e.In w dv) :
    Calls Tryz.prog 42 #[e.val dv] w fun r w' => r = .returned (.bool (wordsB e)) ∧ Below w.heap.size w w' := by
  obtain ⟨la, lc, hdv⟩ := h.data.shape
  obtain ⟨hd, hf, h1, h2, h3, h4, h5⟩ := h
  obtain ⟨g, f, t, a, ho, ap, pr, id, da, tx⟩ := e
  subst hdv
  have hB : Below w.heap.size w (w.alloc (.cells #[.int .i64 g, .int .i64 f, .bool t, .int .i64 a, .string ho, .string ap, .string pr, .string id, .slice la da.length lc, .string tx] 24)) := (Below.refl _ _).alloc (Nat.le_refl _) _
  unfold wordsB
  show Calls _ _ _ _ fun r w' => r = .returned (.bool (wordB ho.data.toList 255 && (wordB ap.data.toList 48 && (wordB pr.data.toList 128 && wordB id.data.toList 32)))) ∧ _
  simp only at h1 h2 h3 h4
  obtain ⟨b1, hb1⟩ : ∃ b, wordB ho.data.toList 255 = b := ⟨_, rfl⟩
  obtain ⟨b2, hb2⟩ : ∃ b, wordB ap.data.toList 48 = b := ⟨_, rfl⟩
  obtain ⟨b3, hb3⟩ : ∃ b, wordB pr.data.toList 128 = b := ⟨_, rfl⟩
  obtain ⟨b4, hb4⟩ : ∃ b, wordB id.data.toList 32 = b := ⟨_, rfl⟩
  have K1 := Lib.hid hb1
  have K2 := Lib.hid hb2
  have K3 := Lib.hid hb3
  have K4 := Lib.hid hb4
  rw [hb1, hb2, hb3, hb4]
  clear hb1 hb2 hb3 hb4 hd hf h5
  go_enter Tryz.func42, Tryz.ntmps42
  go_wp2_with fail
  refine (word_t K1.out h1).mono ?_
  rintro e w' ⟨rfl, rfl⟩
  cases b1 with
  | false =>
    go_wp2
    go_ret
    exact ⟨rfl, hB⟩
  | true =>
    go_wp2_with fail
    refine (word_t K2.out h2).mono ?_
    rintro e w' ⟨rfl, rfl⟩
    cases b2 with
    | false =>
      go_wp2
      go_ret
      exact ⟨rfl, hB⟩
    | true =>
      go_wp2_with fail
      refine (word_t K3.out h3).mono ?_
      rintro e w' ⟨rfl, rfl⟩
      cases b3 with
      | false =>
        go_wp2
        go_ret
        exact ⟨rfl, hB⟩
      | true =>
        go_wp2_with fail
        refine (word_t K4.out h4).mono ?_
        rintro e w' ⟨rfl, rfl⟩
        go_wp2
        go_ret
        exact ⟨rfl, hB⟩
theorem within_t {n last : Int} {b : Bool} {w : World} (h : decide (0 ≤ n ∧ n ≤ last) = b) : Calls Tryz.prog 40 #[.int .i64 n, .int .i64 last] w fun e w' => e = .returned (.bool b) ∧ w' = w := by
  rw [← h]; exact within_any n last w
set_option maxHeartbeats 1000000 in
set_option maxRecDepth 100000 in
theorem right_any (e : Ev) (dv : Value) (w : World) (hS : Std w) (h : e.In w dv) :
    Calls Tryz.prog 15 #[e.val dv] w fun r w' => r = .returned (.int .i64 (rightE e)) ∧ Below w.heap.size w w' := by
  obtain ⟨la, lc, hdv⟩ := h.data.shape
  obtain ⟨ww, hww⟩ : ∃ ww, (w.alloc (.cells #[.int .i64 e.grave, .int .i64 e.from', .bool e.timed, .int .i64 e.at', .string e.host, .string e.app, .string e.proc, .string e.id, dv, .string e.text] 24)) = ww := ⟨_, rfl⟩
  have hB : Below w.heap.size w ww := by rw [← hww]; exact (Below.refl _ _).alloc (Nat.le_refl _) _
  have hS1 := hS.below hB
  have hI1 := h.below hB
  have HT := Lib.hid (fun W (hW : Std W) => time_any e dv W hW ⟨_, _, _, hdv⟩)
  have HW := Lib.hid (fun W (hW : e.In W dv) => words_any e dv W hW)
  have HDt := Lib.hid (fun W (hW : Std W) (hI : e.In W dv) => data_any e.data dv W hW hI.data hI.fits)
  have HV := Lib.hid (fun W (hW : Std W) => valid_any e.text W (by have := h.text; omega) hW)
  have HL := Lib.hid (fun W (hI : e.In W dv) => any_long e.data dv W hI.data hI.fits.1 (fun x hx => (hI.fits.2 x hx).2.1))
  have HR := Lib.hid (show rightE e = if ¬ ((0 ≤ e.grave ∧ e.grave ≤ 7) ∧ (0 ≤ e.from' ∧ e.from' ≤ 23) ∧ timeB e.timed e.at' = true) then 1
    else if ¬ (wordsB e = true ∧ dataB e.data = true ∧ Lib.validD e.text.data.toList = true) then 3
    else if 64 < e.data.length ∨ e.data.any longB = true then 4 else 0 from rfl)
  have hlen := h.fits.1
  obtain ⟨bt, hbt⟩ : ∃ b, timeB e.timed e.at' = b := ⟨_, rfl⟩
  obtain ⟨bw, hbw⟩ : ∃ b, wordsB e = b := ⟨_, rfl⟩
  obtain ⟨bd, hbd⟩ : ∃ b, dataB e.data = b := ⟨_, rfl⟩
  obtain ⟨bv, hbv⟩ : ∃ b, Lib.validD e.text.data.toList = b := ⟨_, rfl⟩
  obtain ⟨bl, hbl⟩ : ∃ b, e.data.any longB = b := ⟨_, rfl⟩
  rw [hbt] at HT HR
  rw [hbw] at HW HR
  rw [hbd] at HDt HR
  rw [hbv] at HV HR
  rw [hbl] at HL HR
  clear hbt hbw hbd hbv hbl
  generalize rightE e = R at HR ⊢
  obtain ⟨bg, hbg⟩ : ∃ b, decide (0 ≤ e.grave ∧ e.grave ≤ 7) = b := ⟨_, rfl⟩
  obtain ⟨bf, hbf⟩ : ∃ b, decide (0 ≤ e.from' ∧ e.from' ≤ 23) = b := ⟨_, rfl⟩
  have KG := Lib.hid hbg
  have KF := Lib.hid hbf
  have HR2 := Lib.hid (show R = if (bg && (bf && bt)) = false then 1 else if (bw && (bd && bv)) = false then 3 else if 64 < e.data.length ∨ bl = true then 4 else 0 by
    rw [HR.out, ← hbg, ← hbf]
    have q1 : (¬ ((0 ≤ e.grave ∧ e.grave ≤ 7) ∧ (0 ≤ e.from' ∧ e.from' ≤ 23) ∧ bt = true)) = ((decide (0 ≤ e.grave ∧ e.grave ≤ 7) && (decide (0 ≤ e.from' ∧ e.from' ≤ 23) && bt)) = false) := by
      rw [← Bool.not_eq_true]; simp only [Bool.and_eq_true, decide_eq_true_iff]
    have q2 : (¬ (bw = true ∧ bd = true ∧ bv = true)) = ((bw && (bd && bv)) = false) := by
      rw [← Bool.not_eq_true]; simp only [Bool.and_eq_true]
    simp only [q1, q2])
  clear hbg hbf HR
  obtain ⟨g, f, t, a, ho, ap, pr, id, da, tx⟩ := e
  subst hdv
  simp only at hww hlen KG KF HT HW HDt HV HL HR2 ⊢
  clear h
  subst hww
  have hn64 : (64 : Int) < (da.length : Int) ↔ 64 < da.length := by omega
  go_enter Tryz.func15, Tryz.ntmps15
  go_wp2_with fail
  refine (within_t KG.out).mono ?_
  rintro r w' ⟨rfl, rfl⟩
  cases bg with
  | false =>
    have HE := Lib.hid (show R = 1 by have := HR2.out; simpa using this)
    go_wp2
    go_ret
    exact ⟨by rw [HE.out]; rfl, hB⟩
  | true =>
    go_wp2_with fail
    refine (within_t KF.out).mono ?_
    rintro r w' ⟨rfl, rfl⟩
    cases bf with
    | false =>
      have HE := Lib.hid (show R = 1 by have := HR2.out; simpa using this)
      go_wp2
      go_ret
      exact ⟨by rw [HE.out]; rfl, hB⟩
    | true =>
      go_wp2_with fail
      refine (HT.out _ hS1).mono ?_
      rintro r w2 ⟨rfl, hb2⟩
      have B2 := hB.trans (hb2.mono hB.size)
      have hS2 := hS1.below hb2
      have hI2 := hI1.below hb2
      obtain ⟨hc2, hf2⟩ := bcell hb2
      have hz2 : w.heap.size < w2.heap.size := by have := hb2.size; simp at this; omega
      clear hb2
      cases bt with
      | false =>
        have HE := Lib.hid (show R = 1 by have := HR2.out; simpa using this)
        go_wp2
        go_ret
        exact ⟨by rw [HE.out]; rfl, B2⟩
      | true =>
        go_wp2_with fail
        refine (HW.out _ hI2).mono ?_
        rintro r w3 ⟨rfl, hb3⟩
        have B3 := B2.trans (hb3.mono B2.size)
        have hS3 := hS2.below hb3
        have hI3 := hI2.below hb3
        obtain ⟨hc3, hf3⟩ := bcell hb3
        have hz3 : w.heap.size < w3.heap.size := Nat.lt_of_lt_of_le hz2 hb3.size
        cases bw with
        | false =>
          have HE := Lib.hid (show R = 3 by have := HR2.out; simpa using this)
          go_wp2
          go_ret
          exact ⟨by rw [HE.out]; rfl, B3⟩
        | true =>
          go_wp2_with fail
          refine (HDt.out _ hS3 hI3).mono ?_
          rintro r w4 ⟨rfl, hb4⟩
          have B4 := B3.trans (hb4.mono B3.size)
          have hS4 := hS3.below hb4
          have hI4 := hI3.below hb4
          obtain ⟨hc4, hf4⟩ := bcell hb4
          have hz4 : w.heap.size < w4.heap.size := Nat.lt_of_lt_of_le hz3 hb4.size
          cases bd with
          | false =>
            have HE := Lib.hid (show R = 3 by have := HR2.out; simpa using this)
            go_wp2
            go_ret
            exact ⟨by rw [HE.out]; rfl, B4⟩
          | true =>
            go_wp2_with fail
            refine (HV.out _ hS4).mono ?_
            rintro r w5 ⟨rfl, hb5⟩
            have B5 := B4.trans (hb5.mono B4.size)
            have hI5 := hI4.below hb5
            obtain ⟨hc5, hf5⟩ := bcell hb5
            have hz5 : w.heap.size < w5.heap.size := Nat.lt_of_lt_of_le hz4 hb5.size
            cases bv with
            | false =>
              have HE := Lib.hid (show R = 3 by have := HR2.out; simpa using this)
              go_wp2
              go_ret
              exact ⟨by rw [HE.out]; rfl, B5⟩
            | true =>
              by_cases hl : 64 < da.length
              · have hl64 : (64 : Int) < (da.length : Int) := by omega
                have HE := Lib.hid (show R = 4 by have := HR2.out; simpa [hl] using this)
                clear hl hn64
                go_wp2
                go_ret
                exact ⟨by rw [HE.out]; rfl, B5⟩
              · have hl64 : ¬ (64 : Int) < (da.length : Int) := by omega
                have HR3 := Lib.hid (show R = if bl = true then 4 else 0 by have := HR2.out; simpa [hl] using this)
                clear hl hn64
                go_wp2_with fail
                refine (HL.out _ hI5).mono ?_
                rintro r w6 ⟨rfl, hb6⟩
                have B6 := B5.trans (hb6.mono B5.size)
                cases bl with
                | false =>
                  have HE := Lib.hid (show R = 0 from HR3.out)
                  go_wp2
                  go_ret
                  exact ⟨by rw [HE.out]; rfl, B6⟩
                | true =>
                  have HE := Lib.hid (show R = 4 from HR3.out)
                  go_wp2
                  go_ret
                  exact ⟨by rw [HE.out]; rfl, B6⟩
end Go.Proofs.YtnaijahhogndjaaGreatDoor
/- What the two closures of sysl.Parse answer that take what is next off a text, and what they leave of its two variables. -/
namespace Go.Proofs.YtnaijahhogndjaaGreatDoor
open Go.ChangeShapes Go.WideShapes Go.ChangeAt Go.RowKit

/-- The world in which Parse works: its answer, its event, what is left, whether all fits, the closure that takes a part. -/
abbrev PW (w : World) (o0 o1 : Obj) (r : List UInt8) (f : Bool) : World :=
  ((((w.alloc o0).alloc o1).alloc (.cells #[.string (bytes r)] 9)).alloc (.cells #[.bool f] 4)).alloc (.cells #[.func (.func 53) #[] #[.pointer (some ⟨w.heap.size + 2, 0, none⟩), .pointer (some ⟨w.heap.size + 3, 0, none⟩)]] 37)
abbrev St := List UInt8 × Bool
def untilL (sep : List UInt8) (s : St) : List UInt8 × St := ((Lib.cut s.1 sep).1, (Lib.cut s.1 sep).2.1, s.2 && (Lib.cut s.1 sep).2.2)
def toldL (s : St) : List UInt8 × St :=
  (if (untilL [32] s).1 = [45] then [] else (untilL [32] s).1, (untilL [32] s).2.1, (untilL [32] s).2.2 && decide ((untilL [32] s).1 ≠ []))
/-- The library's variable MaxLen holds some int. -/
def Max (w : World) : Prop := 2 < w.heap.size ∧ ∃ m : Int, w.cell? ⟨2, 0, none⟩ = some (.int .i64 m)
theorem Max.below {w w' : World} (h : Max w) (hb : Below w.heap.size w w') : Max w' := by
  obtain ⟨h1, m, h2⟩ := h
  exact ⟨Nat.lt_of_lt_of_le h1 hb.size, m, (hb.cell (p := ⟨2, 0, none⟩) h1).trans h2⟩
theorem drewN_below (w : World) (n : Nat) : Below w.heap.size w (w.drewN n) := ⟨rfl, rfl, rfl, Nat.le_refl _, fun _ _ => rfl⟩
theorem pw_below (w : World) (o0 o1 : Obj) (r : List UInt8) (f : Bool) (c : Nat) : Below w.heap.size w ((PW w o0 o1 r f).drewN c) :=
  (((((((Below.refl _ _).alloc (Nat.le_refl _) _).alloc (by simp) _).alloc (by simp <;> omega) _).alloc (by simp <;> omega) _).alloc (by simp <;> omega) _)).trans ((drewN_below _ _).mono (by simp <;> omega))
set_option maxHeartbeats 1000000 in
set_option maxRecDepth 100000 in
theorem until_any (sep : ByteArray) (w : World) (o0 o1 : Obj) (r : List UInt8) (f : Bool) (c : Nat) (hm : Max w) (hr : r.length ≤ 16777216) :
    Calls Tryz.prog 53 #[.string sep, .pointer (some ⟨w.heap.size + 2, 0, none⟩), .pointer (some ⟨w.heap.size + 3, 0, none⟩)] ((PW w o0 o1 r f).drewN c)
      fun e w' => e = .returned (.string (bytes (untilL sep.data.toList (r, f)).1)) ∧ ∃ c', w' = (PW w o0 o1 (untilL sep.data.toList (r, f)).2.1 (untilL sep.data.toList (r, f)).2.2).drewN c' := by
  have hsd : ∀ (X : World) (n : Nat) (p : Addr) (v : Value), (X.drewN n).setCell p v = (X.setCell p v).drewN n := fun _ _ _ _ => rfl
  have hm2 := hm.below (pw_below w o0 o1 r f c)
  obtain ⟨_, m, hmc⟩ := hm2
  have HC := Lib.hid (Tryz.strings_Cut (bytes r) sep m ((PW w o0 o1 r f).drewN c) (by rw [bytes_size]; omega) hmc)
  unfold untilL
  simp only
  rw [bytes_list] at HC
  obtain ⟨p, hp⟩ : ∃ p, Lib.cut r sep.data.toList = p := ⟨_, rfl⟩
  rw [hp] at HC ⊢
  obtain ⟨p1, p2, p3⟩ := p
  simp only at HC ⊢
  clear hp hmc
  go_enter Tryz.func53, Tryz.ntmps53
  go_wp2_with fail
  refine HC.out.mono ?_
  rintro e w' ⟨rfl, k, rfl⟩
  cases f with
  | false =>
    go_wp2
    go_ret
    exact ⟨rfl, _, rfl⟩
  | true =>
    go_wp2
    go_ret
    exact ⟨rfl, _, rfl⟩
theorem until_t {sepl : List UInt8} {sep : ByteArray} {w : World} {o0 o1 : Obj} {r : List UInt8} {f : Bool} {c : Nat} {p r' : List UInt8} {f' : Bool} (h : untilL sepl (r, f) = (p, r', f')) (hsep : sep.data.toList = sepl) (hm : Max w) (hr : r.length ≤ 16777216) :
    Calls Tryz.prog 53 #[.string sep, .pointer (some ⟨w.heap.size + 1 + 1, 0, none⟩), .pointer (some ⟨w.heap.size + 1 + 1 + 1, 0, none⟩)] ((PW w o0 o1 r f).drewN c)
      fun e w' => e = .returned (.string (bytes p)) ∧ ∃ c', w' = (PW w o0 o1 r' f').drewN c' := by
  have := until_any sep w o0 o1 r f c hm hr
  rw [hsep, h] at this
  exact this
set_option maxHeartbeats 1000000 in
set_option maxRecDepth 100000 in
theorem told_any (w : World) (o0 o1 : Obj) (r : List UInt8) (f : Bool) (c : Nat) (hm : Max w) (hr : r.length ≤ 16777216) :
    Calls Tryz.prog 55 #[.pointer (some ⟨w.heap.size + 4, 0, none⟩), .pointer (some ⟨w.heap.size + 3, 0, none⟩)] ((PW w o0 o1 r f).drewN c)
      fun e w' => e = .returned (.string (bytes (toldL (r, f)).1)) ∧ ∃ c', w' = (PW w o0 o1 (toldL (r, f)).2.1 (toldL (r, f)).2.2).drewN c' := by
  have hsd : ∀ (X : World) (n : Nat) (p : Addr) (v : Value), (X.drewN n).setCell p v = (X.setCell p v).drewN n := fun _ _ _ _ => rfl
  unfold toldL
  obtain ⟨p, r', f', hu⟩ : ∃ p r' f', untilL [32] (r, f) = (p, r', f') := ⟨_, _, _, rfl⟩
  have HU := Lib.hid (until_t (w := w) (o0 := o0) (o1 := o1) (c := c) (sep := ⟨#[32]⟩) hu rfl hm hr)
  rw [hu]
  simp only
  clear hu
  have hq1 : ((bytes p).toList == [45]) = decide (p = [45]) := by rw [Lib.toList_data, bytes_list, Bool.eq_iff_iff, beq_iff_eq, decide_eq_true_iff]
  have hq2 : (bytes p).toList.isEmpty = decide (p = []) := by rw [Lib.toList_data, bytes_list]; cases p <;> simp
  by_cases h1 : p = []
  · have e1 : decide (p ≠ []) = false := decide_eq_false (fun h => h h1)
    have e2 : p ≠ [45] := by rw [h1]; decide
    rw [e1, if_neg e2]
    rw [decide_eq_false e2] at hq1
    rw [decide_eq_true h1] at hq2
    clear e1 e2 h1
    cases f' with
    | false =>
      go_enter Tryz.func55, Tryz.ntmps55
      go_wp2_with fail
      refine HU.out.mono ?_
      rintro e w' ⟨rfl, k, rfl⟩
      go_wp2
      go_ret
      exact ⟨rfl, _, rfl⟩
    | true =>
      go_enter Tryz.func55, Tryz.ntmps55
      go_wp2_with fail
      refine HU.out.mono ?_
      rintro e w' ⟨rfl, k, rfl⟩
      go_wp2
      go_ret
      exact ⟨rfl, _, rfl⟩
  · have e1 : decide (p ≠ []) = true := decide_eq_true h1
    rw [e1]
    rw [decide_eq_false h1] at hq2
    clear e1 h1
    by_cases h2 : p = [45]
    · rw [decide_eq_true h2] at hq1
      rw [if_pos h2]
      clear h2
      cases f' with
      | false =>
        go_enter Tryz.func55, Tryz.ntmps55
        go_wp2_with fail
        refine HU.out.mono ?_
        rintro e w' ⟨rfl, k, rfl⟩
        go_wp2
        go_ret
        exact ⟨rfl, _, rfl⟩
      | true =>
        go_enter Tryz.func55, Tryz.ntmps55
        go_wp2_with fail
        refine HU.out.mono ?_
        rintro e w' ⟨rfl, k, rfl⟩
        go_wp2
        go_ret
        exact ⟨rfl, _, rfl⟩
    · rw [decide_eq_false h2] at hq1
      rw [if_neg h2]
      clear h2
      cases f' with
      | false =>
        go_enter Tryz.func55, Tryz.ntmps55
        go_wp2_with fail
        refine HU.out.mono ?_
        rintro e w' ⟨rfl, k, rfl⟩
        go_wp2
        go_ret
        exact ⟨rfl, _, rfl⟩
      | true =>
        go_enter Tryz.func55, Tryz.ntmps55
        go_wp2_with fail
        refine HU.out.mono ?_
        rintro e w' ⟨rfl, k, rfl⟩
        go_wp2
        go_ret
        exact ⟨rfl, _, rfl⟩
theorem told_t {w : World} {o0 o1 : Obj} {r : List UInt8} {f : Bool} {c : Nat} {p r' : List UInt8} {f' : Bool} (h : toldL (r, f) = (p, r', f')) (hm : Max w) (hr : r.length ≤ 16777216) :
    Calls Tryz.prog 55 #[.pointer (some ⟨w.heap.size + 1 + 1 + 1 + 1, 0, none⟩), .pointer (some ⟨w.heap.size + 1 + 1 + 1, 0, none⟩)] ((PW w o0 o1 r f).drewN c)
      fun e w' => e = .returned (.string (bytes p)) ∧ ∃ c', w' = (PW w o0 o1 r' f').drewN c' := by
  have := told_any w o0 o1 r f c hm hr
  rw [h] at this
  exact this
end Go.Proofs.YtnaijahhogndjaaGreatDoor
