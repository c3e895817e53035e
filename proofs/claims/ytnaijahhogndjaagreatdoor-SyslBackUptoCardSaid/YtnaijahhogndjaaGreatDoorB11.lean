/- The texts Elements, CalFigs, Shelf2, one behind the other. -/
import Derived.Test.YtnaijahhogndjaaGreatDoorB10
import Derived.Test.YtnaijahhogndjaaGreatDoorB5
import Derived.Shelf.Strings.Prefix
import Derived.Test.YtnaijahhogndjaaGreatDoorB2
import Derived.Lib.ItoaNum
import Derived.Lib.Repeat
import Derived.Lib.Strings
import Derived.Shelf.Strings.OnBuilder
import Derived.Shelf.LaysM
import Derived.Shelf.Strconv.Itoa3
import Derived.Shelf.Strings.Repeat
import Derived.Test.YtnaijahhogndjaaGreatDoorProg
/- What sysl.elements answers of the text of a list of elements that may be. -/
namespace Go.Proofs.YtnaijahhogndjaaGreatDoor
open Go.ChangeShapes Go.WideShapes Go.ChangeAt Go.RowKit

def lays99_ren : Go.Shelf.Ren := ⟨fun | 99 => 86 | 206 => 116 | n => n, fun | 9 => 9 | 4 => 4 | 3 => 3 | n => n, fun | n => n⟩
theorem lays99 : Go.Proofs.Lays.n99 Tryz.prog lays99_ren := {
  mixed := by kernel_rfl
  f99 := Tryz.func86.trans (congrArg some (by kernel_rfl))
  f206 := Tryz.func116.trans (congrArg some (by kernel_rfl))
  t3 := Tryz.underlying3
  a3 := Tryz.isAgg3
  z3 := Tryz.sizeOf3
  v3 := Tryz.zeroValue3
  t4 := Tryz.underlying4
  a4 := Tryz.isAgg4
  z4 := Tryz.sizeOf4
  v4 := Tryz.zeroValue4
  t9 := Tryz.underlying9
  a9 := Tryz.isAgg9
  z9 := Tryz.sizeOf9
  v9 := Tryz.zeroValue9 }
theorem prefix_is (sep : ByteArray) (r : List UInt8) (f : Bool) (h : Lib.hasPrefix r sep.data.toList = f) (w : World) :
    Calls Tryz.prog 86 #[.string (bytes r), .string sep] w fun e w' => e = .returned (.bool f) ∧ w' = w := by
  have := Go.Proofs.Any.strings_HasPrefix lays99 (bytes r) sep w
  rw [bytes_list, h] at this
  exact this

theorem info52 : (Tryz.prog.info? 52).map (fun i => (i.zero, i.size, i.bytes)) = some (some (.agg #[.string ⟨#[]⟩, .slice none 0 0]), 2, 40) := by kernel_rfl
theorem info52_of : ∃ i, Tryz.prog.info? 52 = some i ∧ i.zero = some (.agg #[.string ⟨#[]⟩, .slice none 0 0]) ∧ i.size = 2 ∧ i.bytes = 40 := by
  have h := info52
  cases hi : Tryz.prog.info? 52 with
  | none => rw [hi] at h; cases h
  | some j => rw [hi] at h; simp only [Option.map_some, Option.some.injEq, Prod.mk.injEq] at h; exact ⟨j, rfl, h.1, h.2.1, h.2.2⟩
def elmsT (es : List Elm) : List UInt8 := es.flatMap elmT
theorem elms_step {es : List Elm} {k : Nat} {e : Elm} (h : es[k]? = some e) (t : List UInt8) : elmsT (es.drop k) ++ t = elmT e ++ (elmsT (es.drop (k + 1)) ++ t) := by
  obtain ⟨hk, hx⟩ := List.getElem?_eq_some_iff.1 h
  rw [List.drop_eq_getElem_cons hk, hx]
  simp [elmsT]
theorem elms_end {es : List Elm} {k : Nat} (h : es.length ≤ k) (t : List UInt8) : elmsT (es.drop k) ++ t = t := by
  rw [List.drop_of_length_le h]; rfl
theorem elm_head (e : Elm) (t : List UInt8) : ∃ r, elmT e ++ t = 91 :: r := ⟨_, rfl⟩
/-- An element's row, as it lies. -/
abbrev Row := ByteArray × Value
def ecells (rows : List Row) : List Value := rows.flatMap fun r => [.string r.1, r.2]
theorem ecells_push (rows : List Row) (r : Row) : ecells (rows ++ [r]) = ecells rows ++ [.string r.1, r.2] := by simp [ecells]
theorem ecells_at : ∀ (rows : List Row) (j : Nat) (r : Row), rows[j]? = some r → (ecells rows)[2 * j]? = some (.string r.1) ∧ (ecells rows)[2 * j + 1]? = some r.2
  | [], j, p, h => by simp at h
  | q :: ps, 0, p, h => by cases h; exact ⟨rfl, rfl⟩
  | q :: ps, j + 1, p, h => by
    have := ecells_at ps j p (by simpa using h)
    rw [show 2 * (j + 1) = 2 * j + 2 by omega, show 2 * j + 2 + 1 = (2 * j + 1) + 2 by omega]
    exact this
/-- What elements' worlds hold: the row of the first elements, and their own rows. -/
structure LAt (w W : World) (lv : Value) (es : List Elm) (rows : List Row) : Prop where
  b : Below w.heap.size w W
  n : rows.length = es.length
  own : W.ownsRow w.heap.size 52 2 lv es.length (ecells rows)
  row : ∀ (j : Nat) (e : Elm), es[j]? = some e → ∃ v, rows[j]? = some (e.1, v) ∧ W.ownsRow w.heap.size 54 2 v e.2.length (pcells e.2)
theorem row_ne {W : World} {b1 b2 : Nat} {e1 e2 : TypeId} {s1 s2 n1 n2 : Nat} {v1 v2 : Value} {x1 x2 : List Value} (hne : e1 ≠ e2) (h1 : W.ownsRow b1 e1 s1 v1 n1 x1) (h2 : W.ownsRow b2 e2 s2 v2 n2 x2) : v1.ownBlock = none ∨ v1.ownBlock ≠ v2.ownBlock := by
  rcases h1.2 with ⟨rfl, _⟩ | ⟨g, cap, cur, rfl, _, hg, _⟩
  · exact .inl rfl
  · rcases h2.2 with ⟨rfl, _⟩ | ⟨g2, cap2, cur2, rfl, _, hg2, _⟩
    · exact .inr (by simp [Value.ownBlock])
    · refine .inr fun he => hne ?_
      have hgg : g = g2 := by simpa [Value.ownBlock] using he
      rw [hgg, hg2] at hg
      cases hg
      rfl
theorem row_mono {W : World} {b b' : Nat} {e : TypeId} {s n : Nat} {v : Value} {x : List Value} (h : W.ownsRow b e s v n x) (hb : b' ≤ b) : W.ownsRow b' e s v n x := by
  refine ⟨h.1, ?_⟩
  rcases h.2 with hn | ⟨g, cap, cur, rfl, h1, rest⟩
  · exact .inl hn
  · exact .inr ⟨g, cap, cur, rfl, Nat.le_trans hb h1, rest⟩
variable {w W : World} {lv : Value} {es : List Elm} {rows : List Row}
theorem LAt.start (w : World) : LAt w w (.slice none 0 0) [] [] := ⟨Below.refl _ _, rfl, World.ownsRow_nil _ _ _ _, fun j e h => by simp at h⟩
theorem LAt.below {W' : World} (h : LAt w W lv es rows) (hb : Below W.heap.size W W') : LAt w W' lv es rows :=
  ⟨h.b.trans (hb.mono h.b.size), h.n, kept_below h.own hb, fun j e he => by
    obtain ⟨v, h1, h2⟩ := h.row j e he
    exact ⟨v, h1, kept_below h2 hb⟩⟩
theorem LAt.push {W' : World} {v' v : Value} {e : Elm} (h : LAt w W lv es rows) (hv : W.ownsRow w.heap.size 54 2 v e.2.length (pcells e.2)) (hg : W.grownBy W' lv.ownBlock) (hown : W'.ownsRow w.heap.size 52 2 v' (es.length + 1) (ecells rows ++ [.string e.1, v])) :
    LAt w W' v' (es ++ [e]) (rows ++ [(e.1, v)]) where
  b := h.b.grown hg h.b.size fun k hk => (h.own.lt k hk).1
  n := by rw [List.length_append, List.length_append, h.n]; rfl
  own := by rw [ecells_push, List.length_append]; exact hown
  row := fun j x hx => by
    rcases Nat.lt_or_ge j es.length with hl | hl
    · rw [List.getElem?_append_left hl] at hx
      obtain ⟨u, h1, h2⟩ := h.row j x hx
      exact ⟨u, by rw [List.getElem?_append_left (by rw [h.n]; exact hl)]; exact h1, h2.kept hg (row_ne (by decide) h2 h.own)⟩
    · rw [List.getElem?_append_right hl] at hx
      have hj : j - es.length = 0 := by
        rcases Nat.eq_zero_or_pos (j - es.length) with h0 | h0
        · exact h0
        · rw [List.getElem?_eq_none (by simp; omega)] at hx; cases hx
      rw [hj] at hx
      cases hx
      exact ⟨v, by rw [List.getElem?_append_right (by rw [h.n]; exact hl), h.n, hj]; rfl, hv.kept hg (row_ne (by decide) hv h.own)⟩
/-- The list, in every world that agrees from there on. -/
theorem LAt.elms {V : World} (h : LAt w W lv es rows) (ha : Agree w.heap.size W V) : ElmsAt V lv es := by
  obtain ⟨hs, hag⟩ := ha
  have hc := h.own
  rcases h.own.2 with ⟨hv, hn⟩ | ⟨g, cap, cur, hv, hb, hg, hcap, hmax, hsz, htake⟩
  · have he : es = [] := List.eq_nil_of_length_eq_zero hn
    subst he
    rw [hv]
    exact ElmsAt.nil V none 0
  · rw [hv] at hc ⊢
    have hlt : g < W.heap.size := (Array.getElem?_eq_some_iff.1 hg).1
    refine ⟨_, _, rfl, fun _ => ⟨g, 0, rfl, by omega, fun j e he => ?_⟩⟩
    obtain ⟨v, h1, h2⟩ := h.row j e he
    have hj := (List.getElem?_eq_some_iff.1 he).1
    have hat := ecells_at rows j _ h1
    refine ⟨v, ?_, ?_, ?_⟩
    · rw [Nat.zero_add, hag _ _ hb hlt, hc.cellAt _ (by omega)]; exact hat.1
    · rw [Nat.zero_add, hag _ _ hb hlt, hc.cellAt _ (by omega)]; exact hat.2
    · have h2' := h2
      rcases h2.2 with ⟨hv2, hn2⟩ | ⟨g2, cap2, cur2, hv2, hb2, hg2, _⟩
      · have he2 : e.2 = [] := List.eq_nil_of_length_eq_zero hn2
        rw [hv2, he2]
        exact PrmsAt.nil V none 0
      · rw [hv2] at h2' ⊢
        have hlt2 : g2 < W.heap.size := (Array.getElem?_eq_some_iff.1 hg2).1
        refine ⟨_, _, rfl, fun _ => ⟨g2, 0, rfl, by omega, fun i p hp => ?_⟩⟩
        have hi := (List.getElem?_eq_some_iff.1 hp).1
        have hpt := pcells_at e.2 i p hp
        rw [Nat.zero_add, hag _ _ hb2 hlt2, hag _ _ hb2 hlt2, h2'.cellAt _ (by omega), h2'.cellAt _ (by omega)]
        exact hpt
theorem LAt.shape (h : LAt w W lv es rows) : ∃ la lc, lv = .slice la es.length lc := by
  rcases h.own.2 with ⟨hv, hn⟩ | ⟨g, cap, cur, hv, _⟩
  · rw [hv, hn]; exact ⟨_, _, rfl⟩
  · exact ⟨_, _, hv⟩
/-- May an element be? (Not asked: its values.) -/
def elmGood (e : Elm) : Prop := nameB e.1.data.toList = true ∧ (∀ p ∈ e.2, nameB p.1.data.toList = true) ∧ e.2.length ≤ 64
def ElmsAns (w : World) (es : List Elm) (t : List UInt8) (x : Ending) (w' : World) : Prop :=
  ∃ la lc, x = .returned (.tuple #[.slice la es.length lc, .string (bytes t), .bool true]) ∧ (∀ V, Agree w.heap.size w' V → ElmsAt V (.slice la es.length lc) es) ∧ Below w.heap.size w w'
set_option maxHeartbeats 8000000 in
set_option maxRecDepth 100000 in
theorem elements_good (es : List Elm) (t : List UInt8) (w : World) (hes : es ≠ []) (h64 : es.length ≤ 64) (hg : ∀ e ∈ es, elmGood e) (ht : es.length < 64 → Lib.hasPrefix t [91] = false) (hl : (elmsT es ++ t).length ≤ 1073741824) :
    Calls Tryz.prog 58 #[.string (bytes (elmsT es ++ t))] w (ElmsAns w es t) := by
  obtain ⟨i0, hi, hz0, hz1, hz2⟩ := info52_of
  have HI := Lib.hid hi
  have HI0 := Lib.hid hz0
  have HI1 := Lib.hid hz1
  have HI2 := Lib.hid hz2
  clear hi hz0 hz1 hz2
  have hpos : 0 < es.length := List.length_pos_iff.2 hes
  obtain ⟨r0, hr0⟩ : ∃ r0, elmsT es ++ t = 91 :: r0 := by
    cases es with
    | nil => exact absurd rfl hes
    | cons e es => exact ⟨_, rfl⟩
  have HC : Hid (Calls Tryz.prog 85 #[.string (bytes (elmsT es ++ t)), .string ⟨#[45]⟩] w fun e w' => e = .returned (.tuple #[.string (bytes (elmsT es ++ t)), .bool false]) ∧ w' = w) := by
    have h := Tryz.strings_CutPrefix (bytes (elmsT es ++ t)) ⟨#[45]⟩ w
    have hm := pre_miss 45 91 r0 (by decide)
    rw [bytes_list, hr0, show (⟨#[45]⟩ : ByteArray).data.toList = [45] from rfl, hm.1, hm.2] at h
    rw [hr0]
    exact Lib.hid h
  have HG := Lib.hid hg
  have HT := Lib.hid ht
  have HL := Lib.hid hl
  clear hr0 hg ht hl hes
  go_enter Tryz.func58, Tryz.ntmps58
  go_wp2_with fail
  refine HC.out.mono ?_
  rintro x w' ⟨rfl, rfl⟩
  go_wp2
  go_loopg [2, 3] (es.length + 1) (fun g lv rv wr => ∃ (k : Nat) (rows : List Row), k ≤ es.length ∧ k + g = es.length + 1 ∧ rv = .string (bytes (elmsT (es.drop k) ++ t)) ∧ LAt w' wr lv (es.take k) rows)
  case atStart => exact ⟨0, [], Nat.zero_le _, by omega, rfl, LAt.start _⟩
  case round =>
    obtain ⟨k, rows, hk, hg, rfl, hE⟩ := hrel
    obtain ⟨la, lc, hlv⟩ := hE.shape
    have hkl : (es.take k).length = k := by rw [List.length_take]; omega
    rw [hkl] at hlv
    subst hlv
    by_cases hlt : k < es.length
    · obtain ⟨e, he⟩ : ∃ e, es[k]? = some e := ⟨es[k]'hlt, List.getElem?_eq_getElem _⟩
      obtain ⟨g1, g2, g3⟩ := HG.out e (List.mem_of_getElem? he)
      obtain ⟨R', hR'⟩ : ∃ R', elmsT (es.drop (k + 1)) ++ t = R' := ⟨_, rfl⟩
      have hstep := elms_step he t
      rw [hR'] at hstep
      have hlen : (elmT e ++ R').length ≤ 1073741824 := by
        have e1 : elmsT es = elmsT (es.take k) ++ elmsT (es.drop k) := by
          unfold elmsT; rw [← List.flatMap_append, List.take_append_drop]
        have e3 := HL.out
        rw [e1, List.append_assoc, hstep] at e3
        rw [List.length_append] at e3
        omega
      rw [hstep]
      have HP := Lib.hid (fun W => prefix_is ⟨#[91]⟩ (elmT e ++ R') true (by rfl) W)
      have HEl := Lib.hid (fun W => element_good e R' W g1 g2 g3 hlen)
      have HR := Lib.hid hR'
      have HEk := Lib.hid he
      clear g1 g2 g3 hR' hstep hlen he
      have hk64 : k < 64 := by omega
      go_wp2_with fail
      refine (HP.out _).mono ?_
      rintro x w1 ⟨rfl, rfl⟩
      go_wp2_with fail
      refine (HEl.out _).mono ?_
      rintro x w2 ⟨pa, pc, rfl, hB, hpo⟩
      have hsz0 := hE.b.size
      have h2 := hE.below hB
      clear hE
      have hb2 : Below w2.heap.size w2 ((w2.alloc (.cells #[.string e.1, .slice pa e.2.length pc] 52)).alloc (.cells #[.string e.1, .slice pa e.2.length pc] 52)) := ((Below.refl _ _).alloc (Nat.le_refl _) _).alloc (by simp) _
      have hsz := h2.b.size
      have h3 := h2.below hb2
      have hpo3 := kept_below (row_mono hpo (show w'.heap.size ≤ w1.heap.size + 2 by omega)) hb2
      have own3 := h3.own
      rw [hkl] at own3
      have hN := cells_new (w2.alloc (.cells #[.string e.1, .slice pa e.2.length pc] 52)) #[.string e.1, .slice pa e.2.length pc] 52
      rw [show (w2.alloc (.cells #[.string e.1, .slice pa e.2.length pc] 52)).heap.size = w2.heap.size + 1 by simp] at hN
      have HN := Lib.hid hN
      have O3 := Lib.hid own3
      have H3 := Lib.hid h3
      have HPO := Lib.hid hpo3
      clear hN own3 h3 hpo3 hpo h2 hb2 hB
      go_wp2_with (at_builtin; refine wpList_append_own _ rfl _ _ 22 rfl w'.heap.size 52 i0 (.agg #[.string ⟨#[]⟩, .slice none 0 0]) 2 40 Tryz.underlying22 HI.out HI0.out HI1.out HI2.out rfl (by decide) _ k _ rfl O3.out ⟨w2.heap.size + 1, 0, none⟩ 1 1 [.string e.1, .slice pa e.2.length pc] rfl rfl HN.out (by simp [Value.oneCell']) (by unfold maxLen; omega) (by omega) (by simp; omega) ?_; intro v1 w3 hown1 hgrow1 _; obtain ⟨a1, cap1, rfl⟩ := slice_of hown1)
      have hpush := H3.out.push HPO.out hgrow1 (by rw [hkl]; exact hown1)
      have htk : es.take (k + 1) = es.take k ++ [e] := by
        obtain ⟨hk2, hx⟩ := List.getElem?_eq_some_iff.1 HEk.out
        rw [List.take_succ_eq_append_getElem hk2, hx]
      rw [← htk] at hpush
      go_roundg (gk - 1)
      case measure => omega
      case rel => exact ⟨k + 1, _, by omega, by omega, by rw [HR.out], hpush⟩
    · obtain rfl : k = es.length := by omega
      have htk : es.take es.length = es := List.take_length
      rw [htk] at hE
      rw [elms_end (Nat.le_refl _)]
      by_cases hk64 : es.length < 64
      · have HP := Lib.hid (fun W => prefix_is ⟨#[91]⟩ t false (HT.out hk64) W)
        go_wp2_with fail
        refine (HP.out _).mono ?_
        rintro x w1 ⟨rfl, rfl⟩
        have HE := Lib.hid hE
        clear hE
        go_wp2
        refine bodyPost_ret (v := .tuple #[.slice la es.length lc, .string (bytes t), .bool true]) (by simp [results, Tryz.results58, go_sem]) rfl ⟨la, lc, rfl, fun V hV => HE.out.elms hV, HE.out.b⟩
      · have HE := Lib.hid hE
        clear hE
        go_wp2
        refine bodyPost_ret (v := .tuple #[.slice la es.length lc, .string (bytes t), .bool true]) (by simp [results, Tryz.results58, go_sem]) rfl ⟨la, lc, rfl, fun V hV => HE.out.elms hV, HE.out.b⟩
end Go.Proofs.YtnaijahhogndjaaGreatDoor
/- Figures of numbers, and what is read of texts, as lists of bytes: what is printed of a date is read as it. No program is spoken of. -/
namespace Go.Proofs.YtnaijahhogndjaaGreatDoor.Cal
open Go

/-- A number's last figures, so many. -/
def pad : Nat → Nat → List UInt8
  | 0, _ => []
  | k + 1, n => pad k (n / 10) ++ [UInt8.ofNat (48 + n % 10)]
theorem pad_length : ∀ k n, (pad k n).length = k
  | 0, _ => rfl
  | k + 1, n => by simp [pad, pad_length k (n / 10)]
theorem pad_dec : ∀ (k n : Nat), 0 < k → n < 10 ^ k → (Lib.decDigits n).length ≤ k ∧ List.replicate (k - (Lib.decDigits n).length) 48 ++ Lib.decDigits n = pad k n
  | 0, _, h, _ => absurd h (by omega)
  | k + 1, n, _, hn => by
    by_cases h10 : n < 10
    · rw [Lib.decDigits_one h10]
      refine ⟨by simp, ?_⟩
      have hp : ∀ j, pad j 0 = List.replicate j 48 := by
        intro j
        induction j with
        | zero => rfl
        | succ j ih => simp only [pad, Nat.zero_div, ih]; rw [List.replicate_succ']; rfl
      simp only [pad]
      rw [show n / 10 = 0 by omega, hp, show n % 10 = n by omega]
      simp
    · have hk : 0 < k := by
        rcases k with _ | k
        · simp at hn; omega
        · omega
      obtain ⟨h1, h2⟩ := pad_dec k (n / 10) hk (by rw [Nat.pow_succ] at hn; omega)
      have e : Lib.decDigits n = Lib.decDigits (n / 10) ++ [UInt8.ofNat (48 + n % 10)] := by rw [Lib.decDigits, dif_neg h10]
      rw [e, List.length_append, List.length_singleton]
      refine ⟨by omega, ?_⟩
      simp only [pad]
      rw [← h2, List.append_assoc, show k + 1 - ((Lib.decDigits (n / 10)).length + 1) = k - (Lib.decDigits (n / 10)).length by omega]

/-! ### what is read -/
def isDig (c : UInt8) : Bool := decide (48 ≤ (c.toNat : Int) ∧ (c.toNat : Int) ≤ 57)
/-- How many figures a text begins with, so many at most. -/
def figs : List UInt8 → Nat → Nat
  | _, 0 => 0
  | [], _ + 1 => 0
  | c :: l, n + 1 => if isDig c = true then figs l n + 1 else 0
theorem figs_le : ∀ (l : List UInt8) (n : Nat), figs l n ≤ n ∧ figs l n ≤ l.length
  | _, 0 => by unfold figs; simp
  | [], _ + 1 => by simp [figs]
  | c :: l, n + 1 => by
    have := figs_le l n
    simp only [figs, List.length_cons]
    split <;> omega
theorem figs_all : ∀ (l : List UInt8) (n : Nat), n ≤ figs l n → ∀ c ∈ l.take n, isDig c = true
  | _, 0, _ => by simp
  | [], _ + 1, _ => by simp
  | c :: l, n + 1, h => by
    simp only [figs] at h
    split at h
    · rename_i hc
      intro x hx
      rw [List.take_succ_cons, List.mem_cons] at hx
      rcases hx with rfl | hx
      · exact hc
      · exact figs_all l n (by omega) x hx
    · omega
theorem figs_front : ∀ (a b : List UInt8), (∀ c ∈ a, isDig c = true) → figs (a ++ b) a.length = a.length
  | [], b, _ => by unfold figs; rfl
  | c :: a, b, h => by
    simp only [List.cons_append, List.length_cons, figs]
    rw [if_pos (h c (by simp)), figs_front a b (fun x hx => h x (by simp [hx]))]
def numOf (l : List UInt8) : Int := l.foldl (fun a c => 10 * a + ((c.toNat : Int) - 48)) 0
theorem numOf_snoc (l : List UInt8) (c : UInt8) : numOf (l ++ [c]) = 10 * numOf l + ((c.toNat : Int) - 48) := by simp [numOf]
theorem numOf_bd_rev : ∀ t : List UInt8, (∀ c ∈ t.reverse, isDig c = true) → 0 ≤ numOf t.reverse ∧ numOf t.reverse < (10 : Int) ^ t.reverse.length
  | [], _ => by simp [numOf]
  | c :: t, h => by
    rw [List.reverse_cons] at h ⊢
    obtain ⟨i1, i2⟩ := numOf_bd_rev t (fun x hx => h x (List.mem_append_left _ hx))
    have hc : 48 ≤ (c.toNat : Int) ∧ (c.toNat : Int) ≤ 57 := of_decide_eq_true (h c (by simp))
    rw [numOf_snoc, List.length_append, List.length_singleton, Int.pow_succ]
    omega
theorem numOf_bd (l : List UInt8) (h : ∀ c ∈ l, isDig c = true) : 0 ≤ numOf l ∧ numOf l < (10 : Int) ^ l.length := by
  have := numOf_bd_rev l.reverse
  rw [List.reverse_reverse] at this
  exact this h
theorem dig_of (n : Nat) : (UInt8.ofNat (48 + n % 10)).toNat = 48 + n % 10 := by simp; omega
theorem pad_digs : ∀ k n, ∀ c ∈ pad k n, isDig c = true
  | 0, _ => by simp [pad]
  | k + 1, n => by
    intro c hc
    simp only [pad, List.mem_append, List.mem_singleton] at hc
    rcases hc with hc | rfl
    · exact pad_digs k (n / 10) c hc
    · unfold isDig; rw [dig_of, decide_eq_true_iff]; omega
theorem numOf_pad : ∀ k n, n < 10 ^ k → numOf (pad k n) = n
  | 0, n, h => by simp at h; simp [pad, numOf, h]
  | k + 1, n, h => by
    simp only [pad]
    rw [numOf_snoc, numOf_pad k (n / 10) (by rw [Nat.pow_succ] at h; omega), dig_of]
    omega

/-- The number of so many figures behind a sign: what it is, what is left, whether all fits. -/
def tk (sg : List UInt8) (k : Nat) (r : List UInt8) (f : Bool) : Int × List UInt8 × Bool :=
  if (f && Lib.hasPrefix r sg && decide (figs (Lib.trimPrefix r sg) k = k)) = true then (numOf ((Lib.trimPrefix r sg).take k), (Lib.trimPrefix r sg).drop k, true) else (0, r, false)
theorem hasPrefix_front (p l : List UInt8) : Lib.hasPrefix (p ++ l) p = true := by
  unfold Lib.hasPrefix; rw [List.isPrefixOf_iff_prefix]; exact List.prefix_append p l
theorem trimPrefix_front (p l : List UInt8) : Lib.trimPrefix (p ++ l) p = l := by
  unfold Lib.trimPrefix; rw [if_pos (hasPrefix_front p l)]; simp
theorem tk_pad (sg : List UInt8) (k n : Nat) (l : List UInt8) (h : n < 10 ^ k) : tk sg k (sg ++ (pad k n ++ l)) true = ((n : Int), l, true) := by
  unfold tk
  have e : figs (pad k n ++ l) k = k := by have := figs_front (pad k n) l (pad_digs k n); rwa [pad_length] at this
  have hl := pad_length k n
  rw [hasPrefix_front, trimPrefix_front, e]
  simp only [Bool.and_self, decide_true, if_true]
  rw [List.take_append_of_le_length (by omega), List.take_of_length_le (by omega), numOf_pad k n h, List.drop_append_of_le_length (by omega), List.drop_of_length_le (by omega), List.nil_append]
theorem trim_suffix (r sg : List UInt8) : ∃ p, r = p ++ Lib.trimPrefix r sg := by
  unfold Lib.trimPrefix
  split
  · exact ⟨r.take sg.length, by rw [List.take_append_drop]⟩
  · exact ⟨[], rfl⟩
theorem tk_suffix (sg : List UInt8) (k : Nat) (r : List UInt8) (f : Bool) : ∃ p, r = p ++ (tk sg k r f).2.1 := by
  unfold tk
  split
  · obtain ⟨p, hp⟩ := trim_suffix r sg
    refine ⟨p ++ (Lib.trimPrefix r sg).take k, ?_⟩
    simp only [List.append_assoc, List.take_append_drop]
    exact hp
  · exact ⟨[], rfl⟩
theorem tk_shorter (sg : List UInt8) (k : Nat) (r : List UInt8) (f : Bool) (hk : 0 < k) (h : (tk sg k r f).2.2 = true) : (tk sg k r f).2.1.length < r.length := by
  unfold tk at h ⊢
  split
  · rename_i hc
    obtain ⟨p, hp⟩ := trim_suffix r sg
    have hr : r.length = p.length + (Lib.trimPrefix r sg).length := by conv => lhs; rw [hp, List.length_append]
    simp only [Bool.and_eq_true, decide_eq_true_iff] at hc
    have := (figs_le (Lib.trimPrefix r sg) k).2
    rw [hc.2] at this
    simp only [List.length_drop]
    omega
  · rename_i hc
    rw [if_neg hc] at h
    cases h
theorem tk_bd (sg : List UInt8) (k : Nat) (r : List UInt8) (f : Bool) : 0 ≤ (tk sg k r f).1 ∧ (tk sg k r f).1 < (10 : Int) ^ k := by
  have hpos : (0 : Int) < 10 ^ k := Int.pow_pos (by decide)
  unfold tk
  split
  · rename_i hc
    simp only [Bool.and_eq_true, decide_eq_true_iff] at hc
    have hall := figs_all (Lib.trimPrefix r sg) k (by omega)
    have hl : ((Lib.trimPrefix r sg).take k).length = k := by
      rw [List.length_take]; have := (figs_le (Lib.trimPrefix r sg) k).2; omega
    have := numOf_bd _ hall
    rwa [hl] at this
  · exact ⟨Int.le_refl _, hpos⟩
theorem tk_false (sg : List UInt8) (k : Nat) (r : List UInt8) : tk sg k r false = (0, r, false) := by unfold tk; simp
end Go.Proofs.YtnaijahhogndjaaGreatDoor.Cal
/- What three functions of the library more answer at this program (strings.Join, Repeat, strconv.Itoa): the library's contracts, laid at its numbers (by the guide's tool, in plain words). -/
namespace Go.Proofs
open Go.Shelf
def Tryz.lays156_ren : Go.Shelf.Ren := ⟨fun | 156 => 65 | 165 => 92 | 166 => 93 | 169 => 94 | 240 => 125 | 241 => 126 | 276 => 158 | 277 => 159 | n => n, fun | 31 => 91 | 9 => 9 | 3 => 3 | 4 => 4 | 0 => 0 | 20 => 20 | 72 => 130 | 76 => 117 | 70 => 128 | 37 => 47 | 75 => 116 | 127 => 150 | 164 => 176 | 5 => 5 | 80 => 79 | n => n, fun | n => n⟩
theorem Tryz.lays156 : Go.Proofs.Lays.n156 Tryz.prog Tryz.lays156_ren := {
  mixed := by kernel_rfl
  f156 := Tryz.func65.trans (congrArg some (by kernel_rfl))
  f165 := Tryz.func92.trans (congrArg some (by kernel_rfl))
  f166 := Tryz.func93.trans (congrArg some (by kernel_rfl))
  f169 := Tryz.func94.trans (congrArg some (by kernel_rfl))
  f240 := Tryz.func125.trans (congrArg some (by kernel_rfl))
  f241 := Tryz.func126.trans (congrArg some (by kernel_rfl))
  f276 := Tryz.func158.trans (congrArg some (by kernel_rfl))
  f277 := Tryz.func159.trans (congrArg some (by kernel_rfl))
  t0 := Tryz.underlying0
  a0 := Tryz.isAgg0
  z0 := Tryz.sizeOf0
  v0 := Tryz.zeroValue0
  t3 := Tryz.underlying3
  a3 := Tryz.isAgg3
  z3 := Tryz.sizeOf3
  v3 := Tryz.zeroValue3
  t4 := Tryz.underlying4
  a4 := Tryz.isAgg4
  z4 := Tryz.sizeOf4
  v4 := Tryz.zeroValue4
  t9 := Tryz.underlying9
  a9 := Tryz.isAgg9
  z9 := Tryz.sizeOf9
  v9 := Tryz.zeroValue9
  t20 := Tryz.underlying20
  a20 := Tryz.isAgg20
  z20 := Tryz.sizeOf20
  v20 := Tryz.zeroValue20
  t31 := Tryz.underlying91
  a31 := Tryz.isAgg91
  z31 := Tryz.sizeOf91
  v31 := Tryz.zeroValue91
  t37 := Tryz.underlying47
  a37 := Tryz.isAgg47
  z37 := Tryz.sizeOf47
  v37 := Tryz.zeroValue47
  t70 := Tryz.underlying128
  a70 := Tryz.isAgg128
  z70 := Tryz.sizeOf128
  v70 := Tryz.zeroValue128
  t72 := Tryz.underlying130
  a72 := Tryz.isAgg130
  z72 := Tryz.sizeOf130
  v72 := Tryz.zeroValue130
  t75 := Tryz.underlying116
  a75 := Tryz.isAgg116
  z75 := Tryz.sizeOf116
  v75 := Tryz.zeroValue116
  t76 := Tryz.underlying117
  a76 := Tryz.isAgg117
  z76 := Tryz.sizeOf117
  v76 := Tryz.zeroValue117
  t127 := Tryz.underlying150
  a127 := Tryz.isAgg150
  z127 := Tryz.sizeOf150
  v127 := Tryz.zeroValue150
  t164 := Tryz.underlying176
  a164 := Tryz.isAgg176
  z164 := Tryz.sizeOf176
  v164 := Tryz.zeroValue176 }
theorem Tryz.Builder_Extra_156 : Builder.Extra Tryz.prog Tryz.lays156_ren := {
  sizeBuilder := by kernel_rfl
  liesBuilder := by kernel_rfl
  t5 := Tryz.underlying5
  a5 := Tryz.isAgg5
  z5 := Tryz.sizeOf5
  v5 := Tryz.zeroValue5
  infoByte := by kernel_rfl
  cellsByte := by kernel_rfl
  sizeByte := by kernel_rfl
  neB5 := by decide }
open Go.RowKit in
theorem Tryz.strings_Join_none (a : Option Addr) (c : Nat) (sep : ByteArray) (w : World) :
    Calls Tryz.prog 65 #[.slice a 0 c, .string sep] w fun e w' => e = .returned (.string ⟨#[]⟩) ∧ w' = w := Any.strings_Join_none Tryz.lays156 Tryz.Builder_Extra_156 a c sep w
open Go.RowKit in
theorem Tryz.strings_Join (bk o c : Nat) (xs : List ByteArray) (sep : ByteArray) (w : World) (hcells : ∀ (j : Nat) x, xs[j]? = some x → w.cell? ⟨bk, o + j, none⟩ = some (.string x)) (hbk : bk < w.heap.size) (hN : xs.length ≤ 140737488355328) (hcap : xs.length ≤ c) (hlen : (Lib.join (xs.map (·.data.toList)) sep.data.toList).length ≤ 140737488355328) :
    Calls Tryz.prog 65 #[.slice (some ⟨bk, o, none⟩) xs.length c, .string sep] w fun e w' => e = .returned (.string ⟨(Lib.join (xs.map (·.data.toList)) sep.data.toList).toArray⟩) ∧ Below w.heap.size w w' := Any.strings_Join Tryz.lays156 Tryz.Builder_Extra_156 bk o c xs sep w hcells hbk hN hcap hlen
def Tryz.laysM171_ren : Go.Shelf.Ren := ⟨fun | 171 => 26 | 243 => 64 | 246 => 91 | 283 => 121 | 284 => 122 | 285 => 123 | 286 => 124 | 129 => 140 | 317 => 154 | 318 => 155 | 319 => 156 | 320 => 157 | 337 => 174 | 338 => 175 | n => n, fun | 3 => 3 | 9 => 9 | 2 => 2 | 4 => 4 | 171 => 145 | 0 => 0 | 53 => 98 | 37 => 47 | 5 => 5 | 173 => 148 | 212 => 174 | 51 => 161 | 20 => 20 | 213 => 175 | 46 => 110 | 232 => 207 | 233 => 208 | n => n, fun | 17 => 3 | 18 => 7 | 19 => 8 | n => n⟩
theorem Tryz.laysM171 : Go.Proofs.LaysM.n171 Tryz.prog Tryz.laysM171_ren := {
  mixed := by kernel_rfl
  f129 := Tryz.func140.trans (congrArg some (by kernel_rfl))
  f171 := Tryz.func26.trans (congrArg some (by kernel_rfl))
  f243 := Tryz.func64.trans (congrArg some (by kernel_rfl))
  f246 := Tryz.func91.trans (congrArg some (by kernel_rfl))
  f283 := Tryz.func121.trans (congrArg some (by kernel_rfl))
  f284 := Tryz.func122.trans (congrArg some (by kernel_rfl))
  f285 := Tryz.func123.trans (congrArg some (by kernel_rfl))
  f286 := Tryz.func124.trans (congrArg some (by kernel_rfl))
  f317 := Tryz.func154.trans (congrArg some (by kernel_rfl))
  f318 := Tryz.func155.trans (congrArg some (by kernel_rfl))
  f319 := Tryz.func156.trans (congrArg some (by kernel_rfl))
  f320 := Tryz.func157.trans (congrArg some (by kernel_rfl))
  f337 := Tryz.func174.trans (congrArg some (by kernel_rfl))
  f338 := Tryz.func175.trans (congrArg some (by kernel_rfl))
  t0 := Tryz.underlying0
  a0 := Tryz.isAgg0
  z0 := Tryz.sizeOf0
  v0 := Tryz.zeroValue0
  t2 := Tryz.underlying2
  a2 := Tryz.isAgg2
  z2 := Tryz.sizeOf2
  v2 := Tryz.zeroValue2
  t3 := Tryz.underlying3
  a3 := Tryz.isAgg3
  z3 := Tryz.sizeOf3
  v3 := Tryz.zeroValue3
  t4 := Tryz.underlying4
  a4 := Tryz.isAgg4
  z4 := Tryz.sizeOf4
  v4 := Tryz.zeroValue4
  t5 := Tryz.underlying5
  a5 := Tryz.isAgg5
  z5 := Tryz.sizeOf5
  v5 := Tryz.zeroValue5
  t9 := Tryz.underlying9
  a9 := Tryz.isAgg9
  z9 := Tryz.sizeOf9
  v9 := Tryz.zeroValue9
  t20 := Tryz.underlying20
  a20 := Tryz.isAgg20
  z20 := Tryz.sizeOf20
  v20 := Tryz.zeroValue20
  t37 := Tryz.underlying47
  a37 := Tryz.isAgg47
  z37 := Tryz.sizeOf47
  v37 := Tryz.zeroValue47
  t46 := Tryz.underlying110
  a46 := Tryz.isAgg110
  z46 := Tryz.sizeOf110
  v46 := Tryz.zeroValue110
  t51 := Tryz.underlying161
  a51 := Tryz.isAgg161
  z51 := Tryz.sizeOf161
  v51 := Tryz.zeroValue161
  t53 := Tryz.underlying98
  a53 := Tryz.isAgg98
  z53 := Tryz.sizeOf98
  v53 := Tryz.zeroValue98
  t171 := Tryz.underlying145
  a171 := Tryz.isAgg145
  z171 := Tryz.sizeOf145
  v171 := Tryz.zeroValue145
  t173 := Tryz.underlying148
  a173 := Tryz.isAgg148
  z173 := Tryz.sizeOf148
  v173 := Tryz.zeroValue148
  t212 := Tryz.underlying174
  a212 := Tryz.isAgg174
  z212 := Tryz.sizeOf174
  v212 := Tryz.zeroValue174
  t213 := Tryz.underlying175
  a213 := Tryz.isAgg175
  z213 := Tryz.sizeOf175
  t232 := Tryz.underlying207
  a232 := Tryz.isAgg207
  z232 := Tryz.sizeOf207
  v232 := Tryz.zeroValue207
  t233 := Tryz.underlying208
  a233 := Tryz.isAgg208
  z233 := Tryz.sizeOf208
  v233 := Tryz.zeroValue208
  g17 := by kernel_rfl
  g18 := by kernel_rfl
  g19 := by kernel_rfl
  i0 := by kernel_rfl
  i2 := by kernel_rfl
  i3 := by kernel_rfl
  i4 := by kernel_rfl
  i5 := by kernel_rfl
  i9 := by kernel_rfl
  i20 := by kernel_rfl
  i37 := by kernel_rfl
  i46 := by kernel_rfl
  i51 := by kernel_rfl
  i53 := by kernel_rfl
  i171 := by kernel_rfl
  i173 := by kernel_rfl
  i212 := by kernel_rfl
  i232 := by kernel_rfl
  i233 := by kernel_rfl
  m17 := by kernel_rfl
  m18 := by kernel_rfl
  m19 := by kernel_rfl }
open Go.RowKit Go.Sort Go.Lib in
theorem Tryz.strconv_Itoa (n : Int) (h0 : -9223372036854775808 ≤ n) (h1 : n ≤ 9223372036854775807) (w : World) (htab : Lib.TabIs Tryz.prog w "internal/strconv.uint64pow10" .u64 Lib.pow10Tab) :
    Calls Tryz.prog 26 #[.int .i64 n] w fun e w' => e = .returned (.string ⟨(Lib.itoa n).toArray⟩) ∧ ∃ k os, w' = grow (w.drewN k) os := Any.strconv_Itoa Tryz.laysM171 n h0 h1 w htab
def Tryz.lays105_ren : Go.Shelf.Ren := ⟨fun | 105 => 128 | 212 => 161 | 99 => 86 | 165 => 92 | 166 => 93 | 170 => 162 | 169 => 94 | 263 => 176 | 264 => 177 | 206 => 116 | 240 => 125 | 241 => 126 | 276 => 158 | 277 => 159 | n => n, fun | 9 => 9 | 3 => 3 | 4 => 4 | 20 => 20 | 0 => 0 | 46 => 110 | 109 => 180 | 5 => 5 | 72 => 130 | 76 => 117 | 51 => 161 | 146 => 189 | 53 => 98 | 148 => 199 | 70 => 128 | 37 => 47 | 75 => 116 | 127 => 150 | 164 => 176 | 80 => 79 | n => n, fun | n => n⟩
theorem Tryz.lays105 : Go.Proofs.Lays.n105 Tryz.prog Tryz.lays105_ren := {
  mixed := by kernel_rfl
  f99 := Tryz.func86.trans (congrArg some (by kernel_rfl))
  f105 := Tryz.func128.trans (congrArg some (by kernel_rfl))
  f165 := Tryz.func92.trans (congrArg some (by kernel_rfl))
  f166 := Tryz.func93.trans (congrArg some (by kernel_rfl))
  f169 := Tryz.func94.trans (congrArg some (by kernel_rfl))
  f170 := Tryz.func162.trans (congrArg some (by kernel_rfl))
  f206 := Tryz.func116.trans (congrArg some (by kernel_rfl))
  f212 := Tryz.func161.trans (congrArg some (by kernel_rfl))
  f240 := Tryz.func125.trans (congrArg some (by kernel_rfl))
  f241 := Tryz.func126.trans (congrArg some (by kernel_rfl))
  f263 := Tryz.func176.trans (congrArg some (by kernel_rfl))
  f264 := Tryz.func177.trans (congrArg some (by kernel_rfl))
  f276 := Tryz.func158.trans (congrArg some (by kernel_rfl))
  f277 := Tryz.func159.trans (congrArg some (by kernel_rfl))
  t0 := Tryz.underlying0
  a0 := Tryz.isAgg0
  z0 := Tryz.sizeOf0
  v0 := Tryz.zeroValue0
  t3 := Tryz.underlying3
  a3 := Tryz.isAgg3
  z3 := Tryz.sizeOf3
  v3 := Tryz.zeroValue3
  t4 := Tryz.underlying4
  a4 := Tryz.isAgg4
  z4 := Tryz.sizeOf4
  v4 := Tryz.zeroValue4
  t5 := Tryz.underlying5
  a5 := Tryz.isAgg5
  z5 := Tryz.sizeOf5
  v5 := Tryz.zeroValue5
  t9 := Tryz.underlying9
  a9 := Tryz.isAgg9
  z9 := Tryz.sizeOf9
  v9 := Tryz.zeroValue9
  t20 := Tryz.underlying20
  a20 := Tryz.isAgg20
  z20 := Tryz.sizeOf20
  v20 := Tryz.zeroValue20
  t37 := Tryz.underlying47
  a37 := Tryz.isAgg47
  z37 := Tryz.sizeOf47
  v37 := Tryz.zeroValue47
  t46 := Tryz.underlying110
  a46 := Tryz.isAgg110
  z46 := Tryz.sizeOf110
  v46 := Tryz.zeroValue110
  t51 := Tryz.underlying161
  a51 := Tryz.isAgg161
  z51 := Tryz.sizeOf161
  v51 := Tryz.zeroValue161
  t53 := Tryz.underlying98
  a53 := Tryz.isAgg98
  z53 := Tryz.sizeOf98
  v53 := Tryz.zeroValue98
  t70 := Tryz.underlying128
  a70 := Tryz.isAgg128
  z70 := Tryz.sizeOf128
  v70 := Tryz.zeroValue128
  t72 := Tryz.underlying130
  a72 := Tryz.isAgg130
  z72 := Tryz.sizeOf130
  v72 := Tryz.zeroValue130
  t75 := Tryz.underlying116
  a75 := Tryz.isAgg116
  z75 := Tryz.sizeOf116
  v75 := Tryz.zeroValue116
  t76 := Tryz.underlying117
  a76 := Tryz.isAgg117
  z76 := Tryz.sizeOf117
  v76 := Tryz.zeroValue117
  t109 := Tryz.underlying180
  a109 := Tryz.isAgg180
  z109 := Tryz.sizeOf180
  v109 := Tryz.zeroValue180
  t127 := Tryz.underlying150
  a127 := Tryz.isAgg150
  z127 := Tryz.sizeOf150
  v127 := Tryz.zeroValue150
  t146 := Tryz.underlying189
  a146 := Tryz.isAgg189
  z146 := Tryz.sizeOf189
  v146 := Tryz.zeroValue189
  t148 := Tryz.underlying199
  a148 := Tryz.isAgg199
  z148 := Tryz.sizeOf199
  v148 := Tryz.zeroValue199
  t164 := Tryz.underlying176
  a164 := Tryz.isAgg176
  z164 := Tryz.sizeOf176
  v164 := Tryz.zeroValue176 }
theorem Tryz.Builder_Extra_105 : Builder.Extra Tryz.prog Tryz.lays105_ren := {
  sizeBuilder := by kernel_rfl
  liesBuilder := by kernel_rfl
  t5 := Tryz.underlying5
  a5 := Tryz.isAgg5
  z5 := Tryz.sizeOf5
  v5 := Tryz.zeroValue5
  infoByte := by kernel_rfl
  cellsByte := by kernel_rfl
  sizeByte := by kernel_rfl
  neB5 := by decide }
open Go.RowKit Go.Lib in
theorem Tryz.strings_Repeat (s : ByteArray) (c : Nat) (w : World) (hc : c ≤ 9223372036854775807) (hlen : s.size * c ≤ 140737488355328) :
    Calls Tryz.prog 128 #[.string s, .int .i64 c] w fun e w' => e = .returned (.string ⟨(Lib.repeatL s.data.toList c).toArray⟩) ∧ Below w.heap.size w w' := Any.strings_Repeat Tryz.lays105 Tryz.Builder_Extra_105 s c w hc hlen
end Go.Proofs
