/- What sysl.elements answers of the text of a list of elements that may be. -/
import Derived.Test.YtmmghppjhmdikaaGreatDoorAF31
import Derived.Test.YtmmghppjhmdikaaGreatDoorAF34
import Derived.Shelf.Strings.Prefix
namespace Go.Proofs.YtmmghppjhmdikaaGreatDoor
open Go.ChangeShapes Go.WideShapes Go.ChangeAt Go.RowKit

def lays99_ren : Go.Shelf.Ren := ⟨fun | 99 => 47 | 206 => 69 | n => n, fun | 9 => 9 | 4 => 4 | 3 => 3 | n => n, fun | n => n⟩
theorem lays99 : Go.Proofs.Lays.n99 Tryz.prog lays99_ren := {
  mixed := by kernel_rfl
  f99 := Tryz.func47.trans (congrArg some (by kernel_rfl))
  f206 := Tryz.func69.trans (congrArg some (by kernel_rfl))
  t3 := Tryz.underlying3
  a3 := Tryz.isAgg3
  z3 := Tryz.sizeOf3
  v3 := Tryz.zeroValue3
  t4 := Tryz.underlying4
  a4 := Tryz.isAgg4
  z4 := Tryz.sizeOf4
  v4 := Tryz.zeroValue4
  t9 := Tryz.underlying9
  a9 := Tryz.isAgg9
  z9 := Tryz.sizeOf9
  v9 := Tryz.zeroValue9 }
theorem prefix_is (sep : ByteArray) (r : List UInt8) (f : Bool) (h : Lib.hasPrefix r sep.data.toList = f) (w : World) :
    Calls Tryz.prog 47 #[.string (bytes r), .string sep] w fun e w' => e = .returned (.bool f) ∧ w' = w := by
  have := Go.Proofs.Any.strings_HasPrefix lays99 (bytes r) sep w
  rw [bytes_list, h] at this
  exact this

theorem info52 : (Tryz.prog.info? 58).map (fun i => (i.zero, i.size, i.bytes)) = some (some (.agg #[.string ⟨#[]⟩, .slice none 0 0]), 2, 40) := by kernel_rfl
theorem info52_of : ∃ i, Tryz.prog.info? 58 = some i ∧ i.zero = some (.agg #[.string ⟨#[]⟩, .slice none 0 0]) ∧ i.size = 2 ∧ i.bytes = 40 := by
  have h := info52
  cases hi : Tryz.prog.info? 58 with
  | none => rw [hi] at h; cases h
  | some j => rw [hi] at h; simp only [Option.map_some, Option.some.injEq, Prod.mk.injEq] at h; exact ⟨j, rfl, h.1, h.2.1, h.2.2⟩
def elmsT (es : List Elm) : List UInt8 := es.flatMap elmT
theorem elms_step {es : List Elm} {k : Nat} {e : Elm} (h : es[k]? = some e) (t : List UInt8) : elmsT (es.drop k) ++ t = elmT e ++ (elmsT (es.drop (k + 1)) ++ t) := by
  obtain ⟨hk, hx⟩ := List.getElem?_eq_some_iff.1 h
  rw [List.drop_eq_getElem_cons hk, hx]
  simp [elmsT]
theorem elms_end {es : List Elm} {k : Nat} (h : es.length ≤ k) (t : List UInt8) : elmsT (es.drop k) ++ t = t := by
  rw [List.drop_of_length_le h]; rfl
theorem elm_head (e : Elm) (t : List UInt8) : ∃ r, elmT e ++ t = 91 :: r := ⟨_, rfl⟩
/-- An element's row, as it lies. -/
abbrev Row := ByteArray × Value
def ecells (rows : List Row) : List Value := rows.flatMap fun r => [.string r.1, r.2]
theorem ecells_push (rows : List Row) (r : Row) : ecells (rows ++ [r]) = ecells rows ++ [.string r.1, r.2] := by simp [ecells]
theorem ecells_at : ∀ (rows : List Row) (j : Nat) (r : Row), rows[j]? = some r → (ecells rows)[2 * j]? = some (.string r.1) ∧ (ecells rows)[2 * j + 1]? = some r.2
  | [], j, p, h => by simp at h
  | q :: ps, 0, p, h => by cases h; exact ⟨rfl, rfl⟩
  | q :: ps, j + 1, p, h => by
    have := ecells_at ps j p (by simpa using h)
    rw [show 2 * (j + 1) = 2 * j + 2 by omega, show 2 * j + 2 + 1 = (2 * j + 1) + 2 by omega]
    exact this
/-- What elements' worlds hold: the row of the first elements, and their own rows. -/
structure LAt (w W : World) (lv : Value) (es : List Elm) (rows : List Row) : Prop where
  b : Below w.heap.size w W
  n : rows.length = es.length
  own : W.ownsRow w.heap.size 58 2 lv es.length (ecells rows)
  row : ∀ (j : Nat) (e : Elm), es[j]? = some e → ∃ v, rows[j]? = some (e.1, v) ∧ W.ownsRow w.heap.size 74 2 v e.2.length (pcells e.2)
theorem row_ne {W : World} {b1 b2 : Nat} {e1 e2 : TypeId} {s1 s2 n1 n2 : Nat} {v1 v2 : Value} {x1 x2 : List Value} (hne : e1 ≠ e2) (h1 : W.ownsRow b1 e1 s1 v1 n1 x1) (h2 : W.ownsRow b2 e2 s2 v2 n2 x2) : v1.ownBlock = none ∨ v1.ownBlock ≠ v2.ownBlock := by
  rcases h1.2 with ⟨rfl, _⟩ | ⟨g, cap, cur, rfl, _, hg, _⟩
  · exact .inl rfl
  · rcases h2.2 with ⟨rfl, _⟩ | ⟨g2, cap2, cur2, rfl, _, hg2, _⟩
    · exact .inr (by simp [Value.ownBlock])
    · refine .inr fun he => hne ?_
      have hgg : g = g2 := by simpa [Value.ownBlock] using he
      rw [hgg, hg2] at hg
      cases hg
      rfl
theorem row_mono {W : World} {b b' : Nat} {e : TypeId} {s n : Nat} {v : Value} {x : List Value} (h : W.ownsRow b e s v n x) (hb : b' ≤ b) : W.ownsRow b' e s v n x := by
  refine ⟨h.1, ?_⟩
  rcases h.2 with hn | ⟨g, cap, cur, rfl, h1, rest⟩
  · exact .inl hn
  · exact .inr ⟨g, cap, cur, rfl, Nat.le_trans hb h1, rest⟩
variable {w W : World} {lv : Value} {es : List Elm} {rows : List Row}
theorem LAt.start (w : World) : LAt w w (.slice none 0 0) [] [] := ⟨Below.refl _ _, rfl, World.ownsRow_nil _ _ _ _, fun j e h => by simp at h⟩
theorem LAt.below {W' : World} (h : LAt w W lv es rows) (hb : Below W.heap.size W W') : LAt w W' lv es rows :=
  ⟨h.b.trans (hb.mono h.b.size), h.n, kept_below h.own hb, fun j e he => by
    obtain ⟨v, h1, h2⟩ := h.row j e he
    exact ⟨v, h1, kept_below h2 hb⟩⟩
theorem LAt.push {W' : World} {v' v : Value} {e : Elm} (h : LAt w W lv es rows) (hv : W.ownsRow w.heap.size 74 2 v e.2.length (pcells e.2)) (hg : W.grownBy W' lv.ownBlock) (hown : W'.ownsRow w.heap.size 58 2 v' (es.length + 1) (ecells rows ++ [.string e.1, v])) :
    LAt w W' v' (es ++ [e]) (rows ++ [(e.1, v)]) where
  b := h.b.grown hg h.b.size fun k hk => (h.own.lt k hk).1
  n := by rw [List.length_append, List.length_append, h.n]; rfl
  own := by rw [ecells_push, List.length_append]; exact hown
  row := fun j x hx => by
    rcases Nat.lt_or_ge j es.length with hl | hl
    · rw [List.getElem?_append_left hl] at hx
      obtain ⟨u, h1, h2⟩ := h.row j x hx
      exact ⟨u, by rw [List.getElem?_append_left (by rw [h.n]; exact hl)]; exact h1, h2.kept hg (row_ne (by decide) h2 h.own)⟩
    · rw [List.getElem?_append_right hl] at hx
      have hj : j - es.length = 0 := by
        rcases Nat.eq_zero_or_pos (j - es.length) with h0 | h0
        · exact h0
        · rw [List.getElem?_eq_none (by simp; omega)] at hx; cases hx
      rw [hj] at hx
      cases hx
      exact ⟨v, by rw [List.getElem?_append_right (by rw [h.n]; exact hl), h.n, hj]; rfl, hv.kept hg (row_ne (by decide) hv h.own)⟩
/-- The list, in every world that agrees from there on. -/
theorem LAt.elms {V : World} (h : LAt w W lv es rows) (ha : Agree w.heap.size W V) : ElmsAt V lv es := by
  obtain ⟨hs, hag⟩ := ha
  have hc := h.own
  rcases h.own.2 with ⟨hv, hn⟩ | ⟨g, cap, cur, hv, hb, hg, hcap, hmax, hsz, htake⟩
  · have he : es = [] := List.eq_nil_of_length_eq_zero hn
    subst he
    rw [hv]
    exact ElmsAt.nil V none 0
  · rw [hv] at hc ⊢
    have hlt : g < W.heap.size := (Array.getElem?_eq_some_iff.1 hg).1
    refine ⟨_, _, rfl, fun _ => ⟨g, 0, rfl, by omega, fun j e he => ?_⟩⟩
    obtain ⟨v, h1, h2⟩ := h.row j e he
    have hj := (List.getElem?_eq_some_iff.1 he).1
    have hat := ecells_at rows j _ h1
    refine ⟨v, ?_, ?_, ?_⟩
    · rw [Nat.zero_add, hag _ _ hb hlt, hc.cellAt _ (by omega)]; exact hat.1
    · rw [Nat.zero_add, hag _ _ hb hlt, hc.cellAt _ (by omega)]; exact hat.2
    · have h2' := h2
      rcases h2.2 with ⟨hv2, hn2⟩ | ⟨g2, cap2, cur2, hv2, hb2, hg2, _⟩
      · have he2 : e.2 = [] := List.eq_nil_of_length_eq_zero hn2
        rw [hv2, he2]
        exact PrmsAt.nil V none 0
      · rw [hv2] at h2' ⊢
        have hlt2 : g2 < W.heap.size := (Array.getElem?_eq_some_iff.1 hg2).1
        refine ⟨_, _, rfl, fun _ => ⟨g2, 0, rfl, by omega, fun i p hp => ?_⟩⟩
        have hi := (List.getElem?_eq_some_iff.1 hp).1
        have hpt := pcells_at e.2 i p hp
        rw [Nat.zero_add, hag _ _ hb2 hlt2, hag _ _ hb2 hlt2, h2'.cellAt _ (by omega), h2'.cellAt _ (by omega)]
        exact hpt
theorem LAt.shape (h : LAt w W lv es rows) : ∃ la lc, lv = .slice la es.length lc := by
  rcases h.own.2 with ⟨hv, hn⟩ | ⟨g, cap, cur, hv, _⟩
  · rw [hv, hn]; exact ⟨_, _, rfl⟩
  · exact ⟨_, _, hv⟩
/-- May an element be? (Not asked: its values.) -/
def elmGood (e : Elm) : Prop := nameB e.1.data.toList = true ∧ (∀ p ∈ e.2, nameB p.1.data.toList = true) ∧ e.2.length ≤ 64
def ElmsAns (w : World) (es : List Elm) (t : List UInt8) (x : Ending) (w' : World) : Prop :=
  ∃ la lc, x = .returned (.tuple #[.slice la es.length lc, .string (bytes t), .bool true]) ∧ (∀ V, Agree w.heap.size w' V → ElmsAt V (.slice la es.length lc) es) ∧ Below w.heap.size w w'
set_option maxHeartbeats 8000000 in
set_option maxRecDepth 100000 in
theorem elements_good (es : List Elm) (t : List UInt8) (w : World) (hes : es ≠ []) (h64 : es.length ≤ 64) (hg : ∀ e ∈ es, elmGood e) (ht : es.length < 64 → Lib.hasPrefix t [91] = false) (hl : (elmsT es ++ t).length ≤ 1073741824) :
    Calls Tryz.prog 33 #[.string (bytes (elmsT es ++ t))] w (ElmsAns w es t) := by
  obtain ⟨i0, hi, hz0, hz1, hz2⟩ := info52_of
  have HI := Lib.hid hi
  have HI0 := Lib.hid hz0
  have HI1 := Lib.hid hz1
  have HI2 := Lib.hid hz2
  clear hi hz0 hz1 hz2
  have hpos : 0 < es.length := List.length_pos_iff.2 hes
  obtain ⟨r0, hr0⟩ : ∃ r0, elmsT es ++ t = 91 :: r0 := by
    cases es with
    | nil => exact absurd rfl hes
    | cons e es => exact ⟨_, rfl⟩
  have HC : Hid (Calls Tryz.prog 46 #[.string (bytes (elmsT es ++ t)), .string ⟨#[45]⟩] w fun e w' => e = .returned (.tuple #[.string (bytes (elmsT es ++ t)), .bool false]) ∧ w' = w) := by
    have h := Tryz.strings_CutPrefix (bytes (elmsT es ++ t)) ⟨#[45]⟩ w
    have hm := pre_miss 45 91 r0 (by decide)
    rw [bytes_list, hr0, show (⟨#[45]⟩ : ByteArray).data.toList = [45] from rfl, hm.1, hm.2] at h
    rw [hr0]
    exact Lib.hid h
  have HG := Lib.hid hg
  have HT := Lib.hid ht
  have HL := Lib.hid hl
  clear hr0 hg ht hl hes
  go_enter Tryz.func33, Tryz.ntmps33
  go_wp2_with fail
  refine HC.out.mono ?_
  rintro x w' ⟨rfl, rfl⟩
  go_wp2
  go_loopg [2, 3] (es.length + 1) (fun g lv rv wr => ∃ (k : Nat) (rows : List Row), k ≤ es.length ∧ k + g = es.length + 1 ∧ rv = .string (bytes (elmsT (es.drop k) ++ t)) ∧ LAt w' wr lv (es.take k) rows)
  case atStart => exact ⟨0, [], Nat.zero_le _, by omega, rfl, LAt.start _⟩
  case round =>
    obtain ⟨k, rows, hk, hg, rfl, hE⟩ := hrel
    obtain ⟨la, lc, hlv⟩ := hE.shape
    have hkl : (es.take k).length = k := by rw [List.length_take]; omega
    rw [hkl] at hlv
    subst hlv
    by_cases hlt : k < es.length
    · obtain ⟨e, he⟩ : ∃ e, es[k]? = some e := ⟨es[k]'hlt, List.getElem?_eq_getElem _⟩
      obtain ⟨g1, g2, g3⟩ := HG.out e (List.mem_of_getElem? he)
      obtain ⟨R', hR'⟩ : ∃ R', elmsT (es.drop (k + 1)) ++ t = R' := ⟨_, rfl⟩
      have hstep := elms_step he t
      rw [hR'] at hstep
      have hlen : (elmT e ++ R').length ≤ 1073741824 := by
        have e1 : elmsT es = elmsT (es.take k) ++ elmsT (es.drop k) := by
          unfold elmsT; rw [← List.flatMap_append, List.take_append_drop]
        have e3 := HL.out
        rw [e1, List.append_assoc, hstep] at e3
        rw [List.length_append] at e3
        omega
      rw [hstep]
      have HP := Lib.hid (fun W => prefix_is ⟨#[91]⟩ (elmT e ++ R') true (by rfl) W)
      have HEl := Lib.hid (fun W => element_good e R' W g1 g2 g3 hlen)
      have HR := Lib.hid hR'
      have HEk := Lib.hid he
      clear g1 g2 g3 hR' hstep hlen he
      have hk64 : k < 64 := by omega
      go_wp2_with fail
      refine (HP.out _).mono ?_
      rintro x w1 ⟨rfl, rfl⟩
      go_wp2_with fail
      refine (HEl.out _).mono ?_
      rintro x w2 ⟨pa, pc, rfl, hB, hpo⟩
      have hsz0 := hE.b.size
      have h2 := hE.below hB
      clear hE
      have hb2 : Below w2.heap.size w2 ((w2.alloc (.cells #[.string e.1, .slice pa e.2.length pc] 58)).alloc (.cells #[.string e.1, .slice pa e.2.length pc] 58)) := ((Below.refl _ _).alloc (Nat.le_refl _) _).alloc (by simp) _
      have hsz := h2.b.size
      have h3 := h2.below hb2
      have hpo3 := kept_below (row_mono hpo (show w'.heap.size ≤ w1.heap.size + 2 by omega)) hb2
      have own3 := h3.own
      rw [hkl] at own3
      have hN := cells_new (w2.alloc (.cells #[.string e.1, .slice pa e.2.length pc] 58)) #[.string e.1, .slice pa e.2.length pc] 58
      rw [show (w2.alloc (.cells #[.string e.1, .slice pa e.2.length pc] 58)).heap.size = w2.heap.size + 1 by simp] at hN
      have HN := Lib.hid hN
      have O3 := Lib.hid own3
      have H3 := Lib.hid h3
      have HPO := Lib.hid hpo3
      clear hN own3 h3 hpo3 hpo h2 hb2 hB
      go_wp2_with (at_builtin; refine wpList_append_own _ rfl _ _ 27 rfl w'.heap.size 58 i0 (.agg #[.string ⟨#[]⟩, .slice none 0 0]) 2 40 Tryz.underlying27 HI.out HI0.out HI1.out HI2.out rfl (by decide) _ k _ rfl O3.out ⟨w2.heap.size + 1, 0, none⟩ 1 1 [.string e.1, .slice pa e.2.length pc] rfl rfl HN.out (by simp [Value.oneCell']) (by unfold maxLen; omega) (by omega) (by simp; omega) ?_; intro v1 w3 hown1 hgrow1 _; obtain ⟨a1, cap1, rfl⟩ := slice_of hown1)
      have hpush := H3.out.push HPO.out hgrow1 (by rw [hkl]; exact hown1)
      have htk : es.take (k + 1) = es.take k ++ [e] := by
        obtain ⟨hk2, hx⟩ := List.getElem?_eq_some_iff.1 HEk.out
        rw [List.take_succ_eq_append_getElem hk2, hx]
      rw [← htk] at hpush
      go_roundg (gk - 1)
      case measure => omega
      case rel => exact ⟨k + 1, _, by omega, by omega, by rw [HR.out], hpush⟩
    · obtain rfl : k = es.length := by omega
      have htk : es.take es.length = es := List.take_length
      rw [htk] at hE
      rw [elms_end (Nat.le_refl _)]
      by_cases hk64 : es.length < 64
      · have HP := Lib.hid (fun W => prefix_is ⟨#[91]⟩ t false (HT.out hk64) W)
        go_wp2_with fail
        refine (HP.out _).mono ?_
        rintro x w1 ⟨rfl, rfl⟩
        have HE := Lib.hid hE
        clear hE
        go_wp2
        refine bodyPost_ret (v := .tuple #[.slice la es.length lc, .string (bytes t), .bool true]) (by simp [results, Tryz.results33, go_sem]) rfl ⟨la, lc, rfl, fun V hV => HE.out.elms hV, HE.out.b⟩
      · have HE := Lib.hid hE
        clear hE
        go_wp2
        refine bodyPost_ret (v := .tuple #[.slice la es.length lc, .string (bytes t), .bool true]) (by simp [results, Tryz.results33, go_sem]) rfl ⟨la, lc, rfl, fun V hV => HE.out.elms hV, HE.out.b⟩
end Go.Proofs.YtmmghppjhmdikaaGreatDoor
