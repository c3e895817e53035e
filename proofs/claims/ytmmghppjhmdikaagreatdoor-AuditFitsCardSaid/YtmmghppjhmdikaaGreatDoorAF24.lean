/- The texts RefRightOut, RefRightIn, RefRight, one behind the other. -/
import Derived.Test.YtmmghppjhmdikaaGreatDoorAF9
import Derived.Test.YtmmghppjhmdikaaGreatDoorAF41
import Derived.Test.YtmmghppjhmdikaaGreatDoorAF39
import Derived.Test.YtmmghppjhmdikaaGreatDoorAF7
/- What the document's own Right answers where a number or the time is out of bounds. -/
namespace Go.Proofs.YtmmghppjhmdikaaGreatDoor
open Go.ChangeShapes Go.WideShapes Go.ChangeAt Go.RowKit Cal

set_option maxHeartbeats 4000000 in
set_option maxRecDepth 100000 in
theorem refRight_nums (g f a : Int) (t : Bool) (ho ap pr id tx : ByteArray) (dv : Value) (w : World) (h : ¬ ((0 ≤ g ∧ g ≤ 7) ∧ (0 ≤ f ∧ f ≤ 23))) :
    Calls Tryz.prog 15 #[.agg #[.int .i64 g, .int .i64 f, .bool t, .int .i64 a, .string ho, .string ap, .string pr, .string id, dv, .string tx]] w
      fun e w' => e = .returned (.int .i64 1) ∧ Below w.heap.size w w' := by
  have hb0 : ∀ o1 : Obj, Below w.heap.size w (w.alloc o1) := fun _ => (Below.refl _ _).alloc (Nat.le_refl _) _
  by_cases h1 : 0 ≤ g
  · by_cases h2 : g ≤ 7
    · by_cases h3 : 0 ≤ f
      · have h4 : 23 < f := by omega
        clear h
        go_enter Tryz.func15, Tryz.ntmps15
        go_wp2
        go_ret
        exact ⟨rfl, hb0 _⟩
      · clear h
        go_enter Tryz.func15, Tryz.ntmps15
        go_wp2
        go_ret
        exact ⟨rfl, hb0 _⟩
    · clear h
      go_enter Tryz.func15, Tryz.ntmps15
      go_wp2
      go_ret
      exact ⟨rfl, hb0 _⟩
  · clear h
    go_enter Tryz.func15, Tryz.ntmps15
    go_wp2
    go_ret
    exact ⟨rfl, hb0 _⟩

set_option maxHeartbeats 4000000 in
set_option maxRecDepth 100000 in
theorem refRight_time (g f a : Int) (t : Bool) (ho ap pr id tx : ByteArray) (dv : Value) (w : World) (h : (0 ≤ g ∧ g ≤ 7) ∧ (0 ≤ f ∧ f ≤ 23)) (ht : timeB t a = false) :
    Calls Tryz.prog 15 #[.agg #[.int .i64 g, .int .i64 f, .bool t, .int .i64 a, .string ho, .string ap, .string pr, .string id, dv, .string tx]] w
      fun e w' => e = .returned (.int .i64 1) ∧ Below w.heap.size w w' := by
  obtain ⟨⟨h1, h2⟩, h3, h4⟩ := h
  have hb0 : ∀ o1 : Obj, Below w.heap.size w (w.alloc o1) := fun _ => (Below.refl _ _).alloc (Nat.le_refl _) _
  cases t with
  | false =>
    have ha : ¬ a = 0 := by
      intro h
      unfold timeB at ht
      rw [if_neg (by decide)] at ht
      exact of_decide_eq_false ht h
    have hne : (a != 0) = true := by rw [bne, beq_eq_false_iff_ne.2 ha]; rfl
    clear ht
    go_enter Tryz.func15, Tryz.ntmps15
    go_wp2
    go_ret
    exact ⟨rfl, hb0 _⟩
  | true =>
    have hT := Lib.hid (show ¬ clamp a - clamp a % 1000 = a by
      unfold timeB at ht
      rw [if_pos rfl] at ht
      exact of_decide_eq_false ht)
    have hB := hb0 (.cells #[.int .i64 g, .int .i64 f, .bool true, .int .i64 a, .string ho, .string ap, .string pr, .string id, dv, .string tx] 29)
    clear ht hb0
    go_enter Tryz.func15, Tryz.ntmps15
    go_wp2_with fail
    refine (Cal.rdate_any a _).mono ?_
    rintro r w2 ⟨y, m, d, hh, i, s, k, rfl, hD, hb2⟩
    have B2 := hB.trans (hb2.mono hB.size)
    obtain ⟨hc2, hf2⟩ := bcell hb2
    have hz2 : w.heap.size < w2.heap.size := by have := hb2.size; simp at this; omega
    have HD := Lib.hid hD
    clear hb2 hD
    go_wp2_with fail
    refine (Cal.rnanos_yes y m d hh i s k 0 w2 (HD.out).1).mono ?_
    rintro r w3 ⟨rfl, hb3⟩
    obtain ⟨hc3, hf3⟩ := bcell hb3
    have B3 := B2.trans (hb3.mono B2.size)
    have HN := Lib.hid (HD.out).2
    have hne : (Cal.nanosI y m d hh i s k 0 != a) = true := by
      rw [bne, beq_eq_false_iff_ne.2 (by rw [HN.out]; exact hT.out)]; rfl
    generalize Cal.nanosI y m d hh i s k 0 = N at HN hne ⊢
    go_wp2
    go_ret
    exact ⟨rfl, B3⟩
end Go.Proofs.YtmmghppjhmdikaaGreatDoor
/- What the document's own Right answers where the numbers and the time are within their bounds. -/
namespace Go.Proofs.YtmmghppjhmdikaaGreatDoor
open Go.ChangeShapes Go.WideShapes Go.ChangeAt Go.RowKit
open Go.Proofs.YtmmghppjhmdikaaGreatDoor.Cal (clamp nanosI)

theorem head_t {s : ByteArray} {most : Int} {b : Bool} {w : World} (h : wordB s.data.toList most = b) (hs : s.size ≤ 140737488355328) :
    Calls Tryz.prog 25 #[.string s, .int .i64 most] w fun e w' => e = .returned (.bool b) ∧ w' = w := by
  rw [← h]; exact refHead_any s most w (by omega)
theorem name_t {s : ByteArray} {b : Bool} {w : World} (h : nameB s.data.toList = b) (hs : s.size ≤ 140737488355328) :
    Calls Tryz.prog 27 #[.string s] w fun e w' => e = .returned (.bool b) ∧ w' = w := by
  rw [← h]; exact refName_any s w (by omega)
theorem utf8_t {s : ByteArray} {b : Bool} {w : World} (h : Lib.validD s.data.toList = b) (hs : s.size ≤ 140737488355328) :
    Calls Tryz.prog 26 #[.string s] w fun e w' => e = .returned (.bool b) ∧ w' = w := by
  rw [← h]; exact refUtf8_any s w hs
theorem data_not {es : List Elm} {x : Elm} (hx : x ∈ es) (h : okE x = false) : dataB es = false := by
  unfold dataB
  rw [show es.all okE = false from by
    rw [List.all_eq_false]
    exact ⟨x, hx, by rw [h]; decide⟩]
  rfl
theorem data_twice {es : List Elm} {j k : Nat} {y x : Elm} (hy : es[j]? = some y) (hx : es[k]? = some x) (hjk : j < k) (h : y.1 = x.1) : dataB es = false := by
  unfold dataB
  rw [show decide ((es.map fun e => e.1.data.toList).Nodup) = false from decide_eq_false fun hn => by
    obtain ⟨h1, e1⟩ := List.getElem?_eq_some_iff.1 hy
    obtain ⟨h2, e2⟩ := List.getElem?_eq_some_iff.1 hx
    have hp := List.pairwise_iff_getElem.1 hn j k (by simpa using h1) (by simpa using h2) hjk
    simp only [List.getElem_map] at hp
    exact hp (by rw [e1, e2, h])]
  exact Bool.and_false _
theorem data_yes {es : List Elm} (h : ∀ y ∈ es.take es.length, okE y = true) (hn : ((es.take es.length).map fun e => e.1.data.toList).Nodup) : dataB es = true := by
  rw [List.take_length] at h hn
  unfold dataB
  rw [List.all_eq_true.2 h, decide_eq_true hn]
  rfl
theorem all_next {es : List Elm} {k : Nat} {x : Elm} (hx : es[k]? = some x) (hp : okE x = true) (hn : ∀ y ∈ es.take k, okE y = true) : ∀ y ∈ es.take (k + 1), okE y = true := by
  obtain ⟨h1, h2⟩ := List.getElem?_eq_some_iff.1 hx
  intro y hy
  rw [List.take_succ_eq_append_getElem h1, List.mem_append, List.mem_singleton] at hy
  rcases hy with hy | hy
  · exact hn y hy
  · rw [hy, h2]; exact hp
theorem nodup_next {es : List Elm} {k : Nat} {x : Elm} (hx : es[k]? = some x) (hd : ∀ y ∈ es.take k, isIdB x.1 y = false) (hn : ((es.take k).map fun e => e.1.data.toList).Nodup) : ((es.take (k + 1)).map fun e => e.1.data.toList).Nodup := by
  obtain ⟨h1, h2⟩ := List.getElem?_eq_some_iff.1 hx
  rw [List.take_succ_eq_append_getElem h1, List.map_append, List.nodup_append]
  refine ⟨hn, by simp, ?_⟩
  intro a ha b hb e
  obtain ⟨y, hy, rfl⟩ := List.mem_map.1 ha
  simp only [List.map_cons, List.map_nil, List.mem_singleton] at hb
  have hne : ¬ y.1 = x.1 := of_decide_eq_false (hd y hy)
  rw [hb, h2] at e
  exact hne (ByteArray.ext (Array.toList_inj.1 e))
def restB (ho ap pr id tx : ByteArray) (da : List Elm) : Int :=
  if ¬ ((wordB ho.data.toList 255 && (wordB ap.data.toList 48 && (wordB pr.data.toList 128 && wordB id.data.toList 32))) = true ∧ dataB da = true ∧ Lib.validD tx.data.toList = true) then 3
  else if 64 < da.length ∨ da.any longB = true then 4
  else 0
theorem rest_words {ho ap pr id tx : ByteArray} {da : List Elm} (h : (wordB ho.data.toList 255 && (wordB ap.data.toList 48 && (wordB pr.data.toList 128 && wordB id.data.toList 32))) = false) : restB ho ap pr id tx da = 3 := by
  unfold restB
  rw [if_pos (by rw [h]; simp)]
theorem rest_text {ho ap pr id tx : ByteArray} {da : List Elm} (h : Lib.validD tx.data.toList = false) : restB ho ap pr id tx da = 3 := by
  unfold restB
  rw [if_pos (by rw [h]; simp)]
theorem rest_data {ho ap pr id tx : ByteArray} {da : List Elm} (h : dataB da = false) : restB ho ap pr id tx da = 3 := by
  unfold restB
  rw [if_pos (by rw [h]; simp)]

theorem rest_long {ho ap pr id tx : ByteArray} {da : List Elm} (hw : (wordB ho.data.toList 255 && (wordB ap.data.toList 48 && (wordB pr.data.toList 128 && wordB id.data.toList 32))) = true) (hd : dataB da = true) (hv : Lib.validD tx.data.toList = true) (h : 64 < da.length ∨ da.any longB = true) : restB ho ap pr id tx da = 4 := by
  unfold restB
  rw [if_neg (fun hn => hn ⟨hw, hd, hv⟩), if_pos h]
theorem rest_good {ho ap pr id tx : ByteArray} {da : List Elm} (hw : (wordB ho.data.toList 255 && (wordB ap.data.toList 48 && (wordB pr.data.toList 128 && wordB id.data.toList 32))) = true) (hd : dataB da = true) (hv : Lib.validD tx.data.toList = true) (h : ¬ (64 < da.length ∨ da.any longB = true)) : restB ho ap pr id tx da = 0 := by
  unfold restB
  rw [if_neg (fun hn => hn ⟨hw, hd, hv⟩), if_neg h]
theorem okE_name {x : Elm} (h : nameB x.1.data.toList = false) : okE x = false := by unfold okE; rw [h]; rfl
theorem okE_param {x : Elm} {p : Prm} (hp : p ∈ x.2) (h : wrongB p = true) : okE x = false := by
  unfold okE
  rw [List.any_eq_true.2 ⟨p, hp, h⟩]
  exact Bool.and_false _
theorem okE_yes {x : Elm} (h : nameB x.1.data.toList = true) (hp : ∀ p ∈ x.2.take x.2.length, wrongB p = false) : okE x = true := by
  rw [List.take_length] at hp
  unfold okE
  rw [h, show x.2.any wrongB = false from List.any_eq_false.2 fun p hm => by rw [hp p hm]; decide]
  rfl
set_option maxHeartbeats 8000000 in
set_option maxRecDepth 100000 in
theorem refRight_in (g f a : Int) (t : Bool) (ho ap pr id tx : ByteArray) (da : List Elm) (la : Option Addr) (ca : Nat) (w : World) (h : (0 ≤ g ∧ g ≤ 7) ∧ (0 ≤ f ∧ f ≤ 23)) (ht : timeB t a = true)
    (hE : ElmsAt w (.slice la da.length ca) da) (hfit : ElmsFit da) (z1 : ho.size ≤ 140737488355328) (z2 : ap.size ≤ 140737488355328) (z3 : pr.size ≤ 140737488355328) (z4 : id.size ≤ 140737488355328) (z5 : tx.size ≤ 140737488355328) :
    Calls Tryz.prog 15 #[.agg #[.int .i64 g, .int .i64 f, .bool t, .int .i64 a, .string ho, .string ap, .string pr, .string id, .slice la da.length ca, .string tx]] w
      fun e w' => e = .returned (.int .i64 (restB ho ap pr id tx da)) ∧ Below w.heap.size w w' := by
  obtain ⟨⟨h1, h2⟩, h3, h4⟩ := h
  have hlen : da.length ≤ 17592186044416 := hfit.1
  have HFIT := Lib.hid hfit.2
  have HE := Lib.hid hE
  have hb0 : ∀ o1 : Obj, Below w.heap.size w (w.alloc o1) := fun _ => (Below.refl _ _).alloc (Nat.le_refl _) _
  obtain ⟨b1, hb1⟩ : ∃ b, wordB ho.data.toList 255 = b := ⟨_, rfl⟩
  obtain ⟨b2, hb2⟩ : ∃ b, wordB ap.data.toList 48 = b := ⟨_, rfl⟩
  obtain ⟨b3, hb3⟩ : ∃ b, wordB pr.data.toList 128 = b := ⟨_, rfl⟩
  obtain ⟨b4, hb4⟩ : ∃ b, wordB id.data.toList 32 = b := ⟨_, rfl⟩
  obtain ⟨b5, hb5⟩ : ∃ b, Lib.validD tx.data.toList = b := ⟨_, rfl⟩
  have K1 := Lib.hid hb1
  have K2 := Lib.hid hb2
  have K3 := Lib.hid hb3
  have K4 := Lib.hid hb4
  have K5 := Lib.hid hb5
  have HR3w : Hid ((b1 && (b2 && (b3 && b4))) = false → restB ho ap pr id tx da = 3) := Lib.hid fun e => rest_words (by rw [hb1, hb2, hb3, hb4]; exact e)
  have HR3t : Hid (b5 = false → restB ho ap pr id tx da = 3) := Lib.hid fun e => rest_text (by rw [hb5]; exact e)
  have HR3d : Hid (dataB da = false → restB ho ap pr id tx da = 3) := Lib.hid fun e => rest_data e
  have HR4 : Hid ((b1 && (b2 && (b3 && b4))) = true → dataB da = true → b5 = true → (64 < da.length ∨ da.any longB = true) → restB ho ap pr id tx da = 4) := Lib.hid fun e1 e2 e3 e4 => rest_long (by rw [hb1, hb2, hb3, hb4]; exact e1) e2 (by rw [hb5]; exact e3) e4
  have HR0 : Hid ((b1 && (b2 && (b3 && b4))) = true → dataB da = true → b5 = true → ¬ (64 < da.length ∨ da.any longB = true) → restB ho ap pr id tx da = 0) := Lib.hid fun e1 e2 e3 e4 => rest_good (by rw [hb1, hb2, hb3, hb4]; exact e1) e2 (by rw [hb5]; exact e3) e4
  generalize restB ho ap pr id tx da = R at HR3w HR3t HR3d HR4 HR0 ⊢
  obtain ⟨wz, hwz⟩ : ∃ wz, w.alloc (.cells #[.int .i64 g, .int .i64 f, .bool t, .int .i64 a, .string ho, .string ap, .string pr, .string id, .slice la da.length ca, .string tx] 29) = wz := ⟨_, rfl⟩
  have Bz : Below w.heap.size w wz := by rw [← hwz]; exact hb0 _
  have hzz : w.heap.size < wz.heap.size := by rw [← hwz]; simp
  have cz : wz.cell? ⟨w.heap.size, 0, none⟩ = some (.int .i64 g) ∧ wz.cell? ⟨w.heap.size, 1, none⟩ = some (.int .i64 f) ∧ wz.cell? ⟨w.heap.size, 2, none⟩ = some (.bool t) ∧ wz.cell? ⟨w.heap.size, 3, none⟩ = some (.int .i64 a) ∧ wz.cell? ⟨w.heap.size, 4, none⟩ = some (.string ho) ∧ wz.cell? ⟨w.heap.size, 5, none⟩ = some (.string ap) ∧ wz.cell? ⟨w.heap.size, 6, none⟩ = some (.string pr) ∧ wz.cell? ⟨w.heap.size, 7, none⟩ = some (.string id) ∧ wz.cell? ⟨w.heap.size, 8, none⟩ = some (.slice la da.length ca) ∧ wz.cell? ⟨w.heap.size, 9, none⟩ = some (.string tx) := by
    rw [← hwz]; simp [go_sem]
  obtain ⟨n0, n1, n2, n3, n4, n5, n6, n7, n8, n9⟩ := cz
  clear hb1 hb2 hb3 hb4 hb5 hb0 hfit hE
  cases t
  case' false =>
    have ha : a = 0 := by
      unfold timeB at ht
      rw [if_neg (by decide)] at ht
      exact of_decide_eq_true ht
    subst ha
    clear ht
    go_enter Tryz.func15, Tryz.ntmps15
    go_wp2_with fail
    obtain ⟨wr, hwr⟩ : ∃ wr, wz = wr := ⟨_, rfl⟩
    subst hwr
    have B := Bz
    have c4 := n4
    have c5 := n5
    have c6 := n6
    have c7 := n7
    have c8 := n8
    have c9 := n9
    clear n0 n1 n2 n3 n4 n5 n6 n7 n8 n9 Bz hwz
  case' true =>
    have hT := Lib.hid (show clamp a - clamp a % 1000 = a by
      unfold timeB at ht
      rw [if_pos rfl] at ht
      exact of_decide_eq_true ht)
    have HN := Lib.hid (And.intro n3 (And.intro n4 (And.intro n5 (And.intro n6 (And.intro n7 (And.intro n8 n9))))))
    clear ht
    go_enter Tryz.func15, Tryz.ntmps15
    go_wp2_with fail
    refine (Cal.rdate_any a _).mono ?_
    rintro r w2 ⟨y, m, d, hh, i, s, k, rfl, hD, hb2⟩
    have HD := Lib.hid hD
    clear hD
    go_wp2_with fail
    refine (Cal.rnanos_yes y m d hh i s k 0 w2 (HD.out).1).mono ?_
    rintro r w3 ⟨rfl, hb3⟩
    have Bw := hb2.trans (hb3.mono hb2.size)
    have B : Below w.heap.size w w3 := Bz.trans (Bw.mono Bz.size)
    have cc : ∀ j v, wz.cell? ⟨w.heap.size, j, none⟩ = some v → w3.cell? ⟨w.heap.size, j, none⟩ = some v := fun j v hv => (Bw.cell (p := ⟨w.heap.size, j, none⟩) hzz).trans hv
    have c3 := cc 3 _ HN.out.1
    have c4 := cc 4 _ HN.out.2.1
    have c5 := cc 5 _ HN.out.2.2.1
    have c6 := cc 6 _ HN.out.2.2.2.1
    have c7 := cc 7 _ HN.out.2.2.2.2.1
    have c8 := cc 8 _ HN.out.2.2.2.2.2.1
    have c9 := cc 9 _ HN.out.2.2.2.2.2.2
    have hne : (nanosI y m d hh i s k 0 != a) = false := by
      rw [(HD.out).2, hT.out, bne, beq_self_eq_true]; rfl
    clear hb2 hb3 Bw cc HN hT HD
    generalize nanosI y m d hh i s k 0 = N at hne ⊢
    go_wp2_with fail
    clear n0 n1 n2 n3 n4 n5 n6 n7 n8 n9 Bz hwz c3 hne
  all_goals
    refine (head_t K1.out z1).mono ?_
    rintro e w' ⟨rfl, rfl⟩
    cases b1 with
    | false =>
      go_wp2_with fail
      refine (utf8_t K5.out z5).mono ?_
      rintro e w' ⟨rfl, rfl⟩
      go_wp2
      go_ret
      exact ⟨by rw [HR3w.out rfl] <;> rfl, B⟩
    | true =>
      go_wp2_with fail
      refine (head_t K2.out z2).mono ?_
      rintro e w' ⟨rfl, rfl⟩
      cases b2 with
      | false =>
        go_wp2_with fail
        refine (utf8_t K5.out z5).mono ?_
        rintro e w' ⟨rfl, rfl⟩
        go_wp2
        go_ret
        exact ⟨by rw [HR3w.out rfl] <;> rfl, B⟩
      | true =>
        go_wp2_with fail
        refine (head_t K3.out z3).mono ?_
        rintro e w' ⟨rfl, rfl⟩
        cases b3 with
        | false =>
          go_wp2_with fail
          refine (utf8_t K5.out z5).mono ?_
          rintro e w' ⟨rfl, rfl⟩
          go_wp2
          go_ret
          exact ⟨by rw [HR3w.out rfl] <;> rfl, B⟩
        | true =>
          go_wp2_with fail
          refine (head_t K4.out z4).mono ?_
          rintro e w' ⟨rfl, rfl⟩
          cases b4 with
          | false =>
            go_wp2_with fail
            refine (utf8_t K5.out z5).mono ?_
            rintro e w' ⟨rfl, rfl⟩
            go_wp2
            go_ret
            exact ⟨by rw [HR3w.out rfl] <;> rfl, B⟩
          | true =>
            go_wp2_with fail
            refine (utf8_t K5.out z5).mono ?_
            rintro e w' ⟨rfl, rfl⟩
            cases b5 with
            | false =>
              go_wp2
              go_ret
              exact ⟨by rw [HR3t.out (by trivial)] <;> rfl, B⟩
            | true =>
              have HS0 := Lib.hid (show OneS w (.slice la da.length ca) _ from ⟨B, c8⟩)
              clear B c4 c5 c6 c7 c9 K1 K2 K3 K4 K5 HR3w HR3t
              go_wp2
              go_loopw [7] (fun i wr => ∃ k : Nat, k ≤ da.length ∧ i = .int .i64 k ∧ Hid (∀ y ∈ da.take k, okE y = true) ∧ Hid (((da.take k).map fun e => e.1.data.toList).Nodup) ∧ OneS w (.slice la da.length ca) wr) (fun i _ => da.length - (intOf i).toNat)
              case atStart => exact ⟨0, Nat.zero_le _, rfl, Lib.hid (fun y hy => by simp at hy), Lib.hid (by simp), HS0.out⟩
              case round =>
                obtain ⟨k, hk, rfl, HT, HN, hBw, k8⟩ := hrel
                have HB8 := Lib.hid (show OneS w (.slice la da.length ca) _ from ⟨hBw, k8⟩)
                by_cases hlt : k < da.length
                · obtain ⟨x, hx⟩ : ∃ x, da[k]? = some x := ⟨da[k]'hlt, List.getElem?_eq_getElem _⟩
                  obtain ⟨la', ca', e0, hma⟩ := HE.out
                  cases e0
                  obtain ⟨bb, oo, rfl, hl1, hc1⟩ := hma (by omega)
                  obtain ⟨v1, q1, q2, hp1⟩ := hc1 k x hx
                  obtain ⟨s1, m1, rfl, hq1⟩ := hp1
                  have hxf := HFIT.out x (List.mem_of_getElem? hx)
                  have hxl : x.2.length ≤ 17592186044416 := hxf.2.1
                  have HXF := Lib.hid hxf.2.2
                  obtain ⟨bn, hbn⟩ : ∃ b, nameB x.1.data.toList = b := ⟨_, rfl⟩
                  have KN := Lib.hid hbn
                  have zX : ∀ W, Below w.heap.size w W → W.cell? ⟨bb, oo + k * 2, none⟩ = some (.string x.1) ∧ W.cell? ⟨bb, oo + k * 2 + 1, none⟩ = some (.slice s1 x.2.length m1) := fun W hW => by
                    rw [Nat.mul_comm 2 k] at q1 q2
                    exact ⟨(hW.cell (p := ⟨bb, oo + k * 2, none⟩) hl1).trans q1, (hW.cell (p := ⟨bb, oo + k * 2 + 1, none⟩) hl1).trans q2⟩
                  have ZX := Lib.hid zX
                  obtain ⟨d1, d2⟩ := zX _ hBw
                  have hxs := hxf.1
                  have HX := Lib.hid hx
                  have HC1 := Lib.hid (fun j (y : Elm) (hj : da[j]? = some y) W (hW : Below w.heap.size w W) => (hW.cell (p := ⟨bb, oo + 2 * j, none⟩) hl1).trans (by obtain ⟨_, h, _⟩ := hc1 j y hj; exact h))
                  clear hma hc1 q1 q2 hx zX hbn hxf
                  go_wp2_with fail
                  refine (name_t KN.out hxs).mono ?_
                  rintro e w' ⟨rfl, rfl⟩
                  cases bn with
                  | false =>
                    have HD := Lib.hid (HR3d.out (data_not (List.mem_of_getElem? HX.out) (okE_name KN.out)))
                    go_wp2
                    go_ret
                    exact ⟨by rw [HD.out] <;> rfl, HB8.out.1⟩
                  | true =>
                    clear d1 d2 hBw k8
                    go_wp2
                    go_loopw [9] (fun j wy => ∃ m : Nat, m ≤ k ∧ j = .int .i64 m ∧ Hid (∀ y ∈ da.take m, isIdB x.1 y = false) ∧ OneS w (.slice (some ⟨bb, oo, none⟩) da.length ca) wy) (fun j _ => k - (intOf j).toNat)
                    case atStart => exact ⟨0, Nat.zero_le _, rfl, Lib.hid (fun y hy => by simp at hy), HB8.out⟩
                    case round =>
                      obtain ⟨m, hm, rfl, HM, hBy, k8⟩ := hrel
                      have HB9 := Lib.hid (show OneS w (.slice (some ⟨bb, oo, none⟩) da.length ca) _ from ⟨hBy, k8⟩)
                      have HB9d := Lib.hid (show ∀ n, OneS w (.slice (some ⟨bb, oo, none⟩) da.length ca) (wr.drewN n) from fun n => ⟨hBy.trans ((drewN_b _ _).mono hBy.size), k8⟩)
                      obtain ⟨d1, d2⟩ := ZX.out _ hBy
                      by_cases hmt : m < k
                      · obtain ⟨y, hy⟩ : ∃ y, da[m]? = some y := ⟨da[m]'(by omega), List.getElem?_eq_getElem _⟩
                        have f1 := HC1.out m y hy _ hBy
                        rw [Nat.mul_comm 2 m] at f1
                        have HY := Lib.hid hy
                        clear hy hBy
                        by_cases hpq : y.1 = x.1
                        case neg =>
                          have hf : isIdB x.1 y = false := decide_eq_false hpq
                          have HNX := Lib.hid (take_next HY.out hf HM.out)
                          have t1 := toList_other hpq
                          clear hpq hf
                          go_wp2_with fail
                          go_quiet (fail)
                          go_wp2
                          go_roundw
                          case rel => exact ⟨m + 1, by omega, by go_num, HNX, HB9d.out _⟩
                          case measure => simp [intOf]; omega
                        case pos =>
                          have HD := Lib.hid (HR3d.out (data_twice HY.out HX.out hmt hpq))
                          have t1 : (y.1.toList == x.1.toList) = true := by rw [hpq]; exact toList_same _
                          clear hpq
                          go_wp2_with fail
                          go_quiet (fail)
                          go_wp2
                          go_ret
                          exact ⟨by rw [HD.out] <;> rfl, (HB9d.out _).1⟩
                      · obtain rfl : m = k := by omega
                        have HN2 := Lib.hid (nodup_next HX.out HM.out HN.out)
                        clear hBy
                        go_wp2
                        clear d1 d2 k8
                        go_loopw [10] (fun j wy => ∃ n : Nat, n ≤ x.2.length ∧ j = .int .i64 n ∧ Hid (∀ p ∈ x.2.take n, wrongB p = false) ∧ OneS w (.slice (some ⟨bb, oo, none⟩) da.length ca) wy) (fun j _ => x.2.length - (intOf j).toNat)
                        case atStart => exact ⟨0, Nat.zero_le _, rfl, Lib.hid (fun y hy => by simp at hy), HB9.out⟩
                        case round =>
                          obtain ⟨n, hn, rfl, HP, hBv, k8⟩ := hrel
                          have HB10 := Lib.hid (show OneS w (.slice (some ⟨bb, oo, none⟩) da.length ca) _ from ⟨hBv, k8⟩)
                          obtain ⟨d1, d2⟩ := ZX.out _ hBv
                          by_cases hnt : n < x.2.length
                          · obtain ⟨p, hp⟩ : ∃ p, x.2[n]? = some p := ⟨x.2[n]'hnt, List.getElem?_eq_getElem _⟩
                            obtain ⟨pb1, po1, hs1, pl1, pc1⟩ := hq1 (by omega)
                            subst hs1
                            have p1 := (hBv.cell (p := ⟨pb1, po1 + 2 * n, none⟩) pl1).trans (pc1 n p hp).1
                            have p2 := (hBv.cell (p := ⟨pb1, po1 + 2 * n + 1, none⟩) pl1).trans (pc1 n p hp).2
                            rw [Nat.mul_comm 2 n] at p1 p2
                            obtain ⟨y1, y2⟩ := HXF.out p (List.mem_of_getElem? hp)
                            obtain ⟨c1, hc1⟩ : ∃ b, nameB p.1.data.toList = b := ⟨_, rfl⟩
                            obtain ⟨c2, hc2⟩ : ∃ b, Lib.validD p.2.data.toList = b := ⟨_, rfl⟩
                            have G1 := Lib.hid hc1
                            have G2 := Lib.hid hc2
                            have HPM := Lib.hid hp
                            have HW := Lib.hid (show wrongB p = (!c1 || !c2) by unfold wrongB; rw [hc1, hc2])
                            have HDP := Lib.hid (show wrongB p = true → R = 3 from fun h => HR3d.out (data_not (List.mem_of_getElem? HX.out) (okE_param (List.mem_of_getElem? HPM.out) h)))
                            clear hq1 pc1 hp hBv hc1 hc2
                            go_wp2_with fail
                            refine (name_t G1.out y1).mono ?_
                            rintro e w' ⟨rfl, rfl⟩
                            go_wp2_with fail
                            refine (utf8_t G2.out y2).mono ?_
                            rintro e w' ⟨rfl, rfl⟩
                            cases c1 with
                            | false =>
                              go_wp2
                              go_ret
                              exact ⟨by rw [HDP.out (by rw [HW.out]; rfl)] <;> rfl, HB10.out.1⟩
                            | true =>
                              cases c2 with
                              | false =>
                                go_wp2
                                go_ret
                                exact ⟨by rw [HDP.out (by rw [HW.out]; rfl)] <;> rfl, HB10.out.1⟩
                              | true =>
                                have HNX := Lib.hid (take_next HPM.out (show wrongB p = false by rw [HW.out]; rfl) HP.out)
                                go_wp2
                                go_roundw
                                case rel => exact ⟨n + 1, by omega, by go_num, HNX, HB10.out⟩
                                case measure => simp [intOf]; omega
                          · obtain rfl : n = x.2.length := by omega
                            have HT2 := Lib.hid (all_next HX.out (okE_yes KN.out HP.out) HT.out)
                            clear hBv
                            go_wp2
                            go_roundw
                            case rel => exact ⟨m + 1, by omega, by go_num, HT2, HN2, HB10.out⟩
                            case measure => simp [intOf]; omega
                · obtain rfl : k = da.length := by omega
                  have HDY := Lib.hid (data_yes HT.out HN.out)
                  by_cases h64 : 64 < da.length
                  · have HD := Lib.hid (HR4.out (by trivial) HDY.out (by trivial) (.inl h64))
                    clear hBw
                    go_wp2
                    go_ret
                    exact ⟨by rw [HD.out] <;> rfl, HB8.out.1⟩
                  · clear hBw
                    go_wp2
                    clear k8
                    go_loopw [13] (fun i wr => ∃ k : Nat, k ≤ da.length ∧ i = .int .i64 k ∧ Hid (∀ y ∈ da.take k, longB y = false) ∧ OneS w (.slice la da.length ca) wr) (fun i _ => da.length - (intOf i).toNat)
                    case atStart => exact ⟨0, Nat.zero_le _, rfl, Lib.hid (fun y hy => by simp at hy), HB8.out⟩
                    case round =>
                      obtain ⟨k, hk, rfl, HL, hBy, k8⟩ := hrel
                      have HB11 := Lib.hid (show OneS w (.slice la da.length ca) _ from ⟨hBy, k8⟩)
                      by_cases hlt : k < da.length
                      · obtain ⟨x, hx⟩ : ∃ x, da[k]? = some x := ⟨da[k]'hlt, List.getElem?_eq_getElem _⟩
                        obtain ⟨la', ca', e0, hma⟩ := HE.out
                        cases e0
                        obtain ⟨bb, oo, rfl, hl1, hc1⟩ := hma (by omega)
                        obtain ⟨v1, q1, q2, hp1⟩ := hc1 k x hx
                        obtain ⟨s1, m1, rfl, hq1⟩ := hp1
                        have hxl : x.2.length ≤ 17592186044416 := (HFIT.out x (List.mem_of_getElem? hx)).2.1
                        rw [Nat.mul_comm 2 k] at q1 q2
                        have d2 := (hBy.cell (p := ⟨bb, oo + k * 2 + 1, none⟩) hl1).trans q2
                        have HX := Lib.hid hx
                        clear hma hc1 q1 q2 hq1 hx hBy
                        by_cases hlo : 64 < x.2.length
                        · have HD := Lib.hid (HR4.out (by trivial) HDY.out (by trivial) (.inr (List.any_eq_true.2 ⟨x, List.mem_of_getElem? HX.out, decide_eq_true hlo⟩)))
                          go_wp2
                          go_ret
                          exact ⟨by rw [HD.out] <;> rfl, HB11.out.1⟩
                        · have HNX := Lib.hid (take_next HX.out (show longB x = false from decide_eq_false hlo) HL.out)
                          go_wp2
                          go_roundw
                          case rel => exact ⟨k + 1, by omega, by go_num, HNX, HB11.out⟩
                          case measure => simp [intOf]; omega
                      · obtain rfl : k = da.length := by omega
                        have HD := Lib.hid (HR0.out (by trivial) HDY.out (by trivial) (fun h => h.elim h64 (fun ha => by
                          obtain ⟨x, hx, hb⟩ := List.any_eq_true.1 ha
                          have := HL.out x (by rw [List.take_length]; exact hx)
                          rw [this] at hb
                          cases hb)))
                        clear hBy
                        go_wp2
                        go_ret
                        exact ⟨by rw [HD.out] <;> rfl, HB11.out.1⟩
end Go.Proofs.YtmmghppjhmdikaaGreatDoor
/- What the document's own Right answers, in all its ways. -/
namespace Go.Proofs.YtmmghppjhmdikaaGreatDoor
open Go.ChangeShapes Go.WideShapes Go.ChangeAt Go.RowKit

theorem refRight_any (e : Ev) (dv : Value) (w : World) (h : e.In w dv) :
    Calls Tryz.prog 15 #[e.val dv] w fun r w' => r = .returned (.int .i64 (rightE e)) ∧ Below w.heap.size w w' := by
  obtain ⟨la, lc, hdv⟩ := h.data.shape
  obtain ⟨hd, hf, h1, h2, h3, h4, h5⟩ := h
  obtain ⟨g, f, t, a, ho, ap, pr, id, da, tx⟩ := e
  subst hdv
  by_cases hn : (0 ≤ g ∧ g ≤ 7) ∧ (0 ≤ f ∧ f ≤ 23)
  case neg =>
    have hr : rightE ⟨g, f, t, a, ho, ap, pr, id, da, tx⟩ = 1 := by
      unfold rightE
      exact if_pos fun hh => hn ⟨hh.1, hh.2.1⟩
    rw [hr]
    exact refRight_nums g f a t ho ap pr id tx _ w hn
  case pos =>
    cases ht : timeB t a with
    | false =>
      have hr : rightE ⟨g, f, t, a, ho, ap, pr, id, da, tx⟩ = 1 := by
        unfold rightE
        exact if_pos fun hh => by
          have h3 : timeB t a = true := hh.2.2
          rw [ht] at h3
          cases h3
      rw [hr]
      exact refRight_time g f a t ho ap pr id tx _ w hn ht
    | true =>
      have hr : rightE ⟨g, f, t, a, ho, ap, pr, id, da, tx⟩ = restB ho ap pr id tx da := by
        unfold rightE
        exact if_neg fun hh => hh ⟨hn.1, hn.2, ht⟩
      rw [hr]
      exact refRight_in g f a t ho ap pr id tx da la lc w hn ht hd hf h1 h2 h3 h4 h5
end Go.Proofs.YtmmghppjhmdikaaGreatDoor
