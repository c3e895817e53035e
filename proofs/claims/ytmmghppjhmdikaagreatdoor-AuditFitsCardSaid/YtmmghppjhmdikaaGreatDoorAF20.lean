/- The texts ElemAgree, ReadsAgree, RefParseLists, RefSteps, one behind the other. -/
import Derived.Test.YtmmghppjhmdikaaGreatDoorAF33
import Derived.Test.YtmmghppjhmdikaaGreatDoorAF23
import Derived.Test.YtmmghppjhmdikaaGreatDoorAF19
import Derived.Test.YtmmghppjhmdikaaGreatDoorAF21
import Derived.Test.YtmmghppjhmdikaaGreatDoorAF8
import Derived.Lib.AtoiTie
import Derived.Test.YtmmghppjhmdikaaGreatDoorAF25
/- Parameters and elements of right names are read alike by the program and by the document. No program is spoken of. -/
namespace Go.Proofs.YtmmghppjhmdikaaGreatDoor
open Go.ChangeShapes Go.WideShapes Go.ChangeAt Go.RowKit

theorem pre_cons (l : List UInt8) (c : UInt8) : Lib.hasPrefix l [c] = decide (l.head? = some c) := by
  cases l with
  | nil => rfl
  | cons a l =>
    show (c == a && List.isPrefixOf [] l) = _
    have : List.isPrefixOf ([] : List UInt8) l = true := rfl
    rw [this, Bool.and_true]
    by_cases h : c = a
    · subst h; simp
    · simp [h, Ne.symm h]
theorem trim_cons {l : List UInt8} {c : UInt8} (h : l.head? = some c) : l = c :: l.tail ∧ Lib.trimPrefix l [c] = l.tail := by
  cases l with
  | nil => cases h
  | cons a l =>
    cases h
    refine ⟨rfl, ?_⟩
    unfold Lib.trimPrefix
    rw [pre_cons]
    simp
theorem pre_two {l : List UInt8} {c d : UInt8} : Lib.hasPrefix l [c, d] = true ↔ ∃ t, l = c :: d :: t ∧ Lib.trimPrefix l [c, d] = t := by
  constructor
  · intro h
    obtain ⟨t, rfl⟩ := List.isPrefixOf_iff_prefix.1 (show List.isPrefixOf [c, d] l = true from h)
    refine ⟨t, rfl, ?_⟩
    unfold Lib.trimPrefix
    rw [if_pos h]
    rfl
  · rintro ⟨t, rfl, _⟩
    show List.isPrefixOf [c, d] (c :: d :: t) = true
    simp [List.isPrefixOf]
/-- A byte's first place. -/
theorem atB_is {q : List UInt8} {c : UInt8} {k : Nat} (h : q[k]? = some c) (hn : ∀ b ∈ q.take k, b ≠ c) : atB q c = k := by
  obtain ⟨hk, hc⟩ := List.getElem?_eq_some_iff.1 h
  unfold atB
  rw [List.findIdx_eq hk]
  refine ⟨by simp [hc], fun j hj => ?_⟩
  have := hn q[j] (List.mem_take_iff_getElem.2 ⟨j, by omega, rfl⟩)
  simpa using this
theorem atB_at {q : List UInt8} {c : UInt8} (h : atB q c < q.length) : q[atB q c]? = some c := by
  unfold atB at h ⊢
  have := List.findIdx_getElem (w := h)
  rw [List.getElem?_eq_getElem h]
  simpa using this
theorem atB_before {q : List UInt8} {c : UInt8} : ∀ b ∈ q.take (atB q c), b ≠ c := by
  intro b hb
  obtain ⟨j, hj, rfl⟩ := List.mem_take_iff_getElem.1 hb
  have := List.not_of_lt_findIdx (p := fun b => b == c) (xs := q) (i := j) (by unfold atB at hj; omega)
  simpa using this
theorem nameAt_before {q : List UInt8} : ∀ b ∈ q.take (nameAt q), [61, 93, 34, 32].contains b = false := by
  intro b hb
  obtain ⟨j, hj, rfl⟩ := List.mem_take_iff_getElem.1 hb
  have := List.not_of_lt_findIdx (p := fun b => [61, 93, 34, 32].contains b) (xs := q) (i := j) (by unfold nameAt at hj; omega)
  simpa using this
theorem nameAt_is {q : List UInt8} {c : UInt8} {k : Nat} (h : q[k]? = some c) (hc : [61, 93, 34, 32].contains c = true) (hn : ∀ b ∈ q.take k, [61, 93, 34, 32].contains b = false) : nameAt q = k := by
  obtain ⟨hk, hc2⟩ := List.getElem?_eq_some_iff.1 h
  unfold nameAt
  rw [List.findIdx_eq hk]
  refine ⟨by rw [hc2]; exact hc, fun j hj => ?_⟩
  exact hn q[j] (List.mem_take_iff_getElem.2 ⟨j, by omega, rfl⟩)
theorem name_before {nm : List UInt8} (h : nameB nm = true) : ∀ b ∈ nm, [61, 93, 34, 32].contains b = false := fun b hb => (name_bytes h b hb).1
theorem suffix_ne {n : Nat} {t r : List UInt8} {ps : List Prm} (h : prmsL n t = some (ps, r)) (hr : r ≠ []) : t ≠ [] := by
  rintro rfl
  cases n with
  | zero => cases h; exact hr rfl
  | succ n => unfold prmsL at h; rw [if_neg (by decide)] at h; cases h; exact hr rfl
/-- What the program reads, the document reads. -/
theorem prms_to : ∀ (n m : Nat) (l r : List UInt8) (ps : List Prm), prmsL n l = some (ps, r) → r.head? = some 93 → l.length < m → prmsD m l = some (ps, r)
  | 0, m, l, r, ps, h, hr, hm => by
    cases h
    obtain ⟨m, rfl⟩ : ∃ k, m = k + 1 := ⟨m - 1, by omega⟩
    exact prmsD_stop (by rw [hr]; decide)
  | n + 1, m, l, r, ps, h, hr, hm => by
    obtain ⟨m, rfl⟩ : ∃ k, m = k + 1 := ⟨m - 1, by omega⟩
    unfold prmsL at h
    rw [pre_cons] at h
    by_cases h32 : l.head? = some 32
    · rw [if_pos (by simp [h32])] at h
      obtain ⟨e1, e2⟩ := trim_cons h32
      rw [e2] at h
      obtain ⟨q, hq⟩ : ∃ q, l.tail = q := ⟨_, rfl⟩
      rw [hq] at h e1
      by_cases hp : Lib.hasPrefix (q.drop (nameAt q)) [61, 34] = true
      · rw [if_pos hp] at h
        obtain ⟨t, ht, ht2⟩ := pre_two.1 hp
        rw [ht2] at h
        have k1 : q[nameAt q]? = some 61 := by have := congrArg (fun x => x[0]?) ht; simpa using this
        have hk : atB q 61 = nameAt q := atB_is k1 fun b hb hc => by have := nameAt_before b hb; rw [hc] at this; revert this; decide
        have hlt : nameAt q < q.length := (List.getElem?_eq_some_iff.1 k1).1
        have d1 : q.drop (nameAt q + 1) = 34 :: t := by rw [← List.drop_drop, ht]; rfl
        have d2 : q.drop (nameAt q + 2) = t := by rw [← List.drop_drop, ht]; rfl
        cases hv : takeV t with
        | none => rw [hv] at h; cases h
        | some p =>
          obtain ⟨v, t'⟩ := p
          rw [hv] at h
          simp only at h
          cases hz : prmsL n t' with
          | none => rw [hz] at h; cases h
          | some z =>
            obtain ⟨zs, zr⟩ := z
            rw [hz] at h
            cases h
            have hne : t' ≠ [] := suffix_ne hz (by rintro rfl; cases hr)
            have hl1 : l.length = q.length + 1 := by rw [e1]; rfl
            have hl2 := takeV_sum _ _ _ (Nat.le_refl _) hv
            simp only at hl2
            have hl3 : t.length ≤ q.length := by rw [← d2, List.length_drop]; omega
            rw [prmsD_yes (v := v) (t := t') e1 ⟨by rw [hk]; exact hlt, by rw [hk, d1]; rfl⟩ (by rw [hk, d2, hv]) hne, prms_to n m t' zr zs hz hr (by omega), hk]
            rfl
      · rw [if_neg hp] at h; cases h
    · rw [if_neg (by simp [h32])] at h
      cases h
      exact prmsD_stop h32
/-- What the document reads, if its names are right and it is not too long, the program reads. -/
theorem prms_from : ∀ (m n : Nat) (l r : List UInt8) (ps : List Prm), prmsD m l = some (ps, r) → (∀ p ∈ ps, nameB p.1.data.toList = true) → ps.length ≤ n → prmsL n l = some (ps, r)
  | 0, n, l, r, ps, h, _, _ => by cases h
  | m + 1, n, l, r, ps, h, hn, hl => by
    by_cases h32 : l.head? = some 32
    · obtain ⟨e1, e2⟩ := trim_cons h32
      obtain ⟨q, hq⟩ : ∃ q, l.tail = q := ⟨_, rfl⟩
      rw [hq] at e1 e2
      rw [e1, prmsD_32] at h
      by_cases hc : atB q 61 < q.length ∧ (q.drop (atB q 61 + 1)).head? = some 34
      · rw [if_pos hc] at h
        cases hv : takeV (q.drop (atB q 61 + 2)) with
        | none => rw [hv] at h; cases h
        | some p =>
          obtain ⟨v, t⟩ := p
          rw [hv] at h
          simp only [Option.bind_some] at h
          by_cases ht : t = []
          · rw [if_pos ht] at h; cases h
          · rw [if_neg ht] at h
            cases hz : prmsD m t with
            | none => rw [hz] at h; cases h
            | some z =>
              obtain ⟨zs, zr⟩ := z
              rw [hz] at h
              cases h
              have hnm := hn _ (List.mem_cons_self ..)
              rw [bytes_list] at hnm
              have hk : nameAt q = atB q 61 := nameAt_is (atB_at hc.1) (by decide) (name_before hnm)
              obtain ⟨n, rfl⟩ : ∃ k, n = k + 1 := ⟨n - 1, by simp at hl; omega⟩
              have hr := prms_from m n t zr zs hz (fun p hp => hn p (List.mem_cons_of_mem _ hp)) (by simp at hl; omega)
              have d0 : q.drop (atB q 61) = 61 :: 34 :: q.drop (atB q 61 + 2) := by
                have a1 := atB_at hc.1
                obtain ⟨a2, a3⟩ := List.getElem?_eq_some_iff.1 a1
                rw [List.drop_eq_getElem_cons a2, a3, (trim_cons hc.2).1, List.tail_drop]
              obtain ⟨p1, p2⟩ : Lib.hasPrefix (q.drop (atB q 61)) [61, 34] = true ∧ Lib.trimPrefix (q.drop (atB q 61)) [61, 34] = q.drop (atB q 61 + 2) := by
                rw [d0]
                have hp : Lib.hasPrefix (61 :: 34 :: q.drop (atB q 61 + 2)) [61, 34] = true := by
                  show List.isPrefixOf [61, 34] _ = true
                  simp [List.isPrefixOf]
                refine ⟨hp, ?_⟩
                unfold Lib.trimPrefix
                rw [if_pos hp]
                rfl
              unfold prmsL
              rw [pre_cons, if_pos (by simp [h32]), e2, hk, if_pos p1, p2, hv]
              simp only [hr]
              rfl
      · rw [if_neg hc] at h; cases h
    · rw [prmsD_stop h32] at h
      cases h
      cases n with
      | zero => rfl
      | succ n => unfold prmsL; rw [pre_cons, if_neg (by simp [h32])]
theorem atE_is {q : List UInt8} {c : UInt8} {k : Nat} (h : q[k]? = some c) (hc : c = 32 ∨ c = 93) (hn : ∀ b ∈ q.take k, b ≠ 32 ∧ b ≠ 93) : atE q = k := by
  obtain ⟨hk, hc2⟩ := List.getElem?_eq_some_iff.1 h
  unfold atE
  rw [List.findIdx_eq hk]
  refine ⟨by rw [hc2]; rcases hc with rfl | rfl <;> rfl, fun j hj => ?_⟩
  have := hn q[j] (List.mem_take_iff_getElem.2 ⟨j, by omega, rfl⟩)
  simp [this.1, this.2]
theorem atE_at {q : List UInt8} (h : atE q < q.length) : ∃ c, q[atE q]? = some c ∧ (c = 32 ∨ c = 93) := by
  unfold atE at h ⊢
  have := List.findIdx_getElem (w := h)
  refine ⟨_, List.getElem?_eq_getElem h, ?_⟩
  simpa using this
theorem prmsL_head {n : Nat} {l r : List UInt8} {ps : List Prm} (h : prmsL n l = some (ps, r)) (hr : r.head? = some 93) : l.head? = some 32 ∨ l.head? = some 93 := by
  cases n with
  | zero => cases h; exact .inr hr
  | succ n =>
    by_cases h32 : l.head? = some 32
    · exact .inl h32
    · unfold prmsL at h
      rw [pre_cons, if_neg (by simp [h32])] at h
      cases h
      exact .inr hr
theorem drop_head {l : List UInt8} {k : Nat} {c : UInt8} (h : (l.drop k).head? = some c) : l[k]? = some c := by
  rwa [List.head?_drop] at h
/-- An element that the program reads, the document reads. -/
theorem elem_to {q r : List UInt8} {e : Elm} (h : elementL (91 :: q) = some (e, r)) : elemD q = some (e, r) := by
  have ht : Lib.trimPrefix (91 :: q) [91] = q := (trim_cons (l := 91 :: q) (c := 91) rfl).2
  unfold elementL at h
  rw [ht] at h
  cases hp : prmsL 64 (q.drop (nameAt q)) with
  | none => rw [hp] at h; cases h
  | some p =>
    obtain ⟨ps, t⟩ := p
    rw [hp] at h
    simp only [pre_cons] at h
    by_cases h93 : t.head? = some 93
    · rw [if_pos (by simp [h93])] at h
      cases h
      have hh := prmsL_head hp h93
      have hk : atE q = nameAt q := by
        rcases hh with hh | hh
        · exact atE_is (drop_head hh) (.inl rfl) fun b hb => by have := nameAt_before b hb; simp at this; exact ⟨this.2.2.2, this.2.1⟩
        · exact atE_is (drop_head hh) (.inr rfl) fun b hb => by have := nameAt_before b hb; simp at this; exact ⟨this.2.2.2, this.2.1⟩
      have hlt : nameAt q < q.length := by
        rcases hh with hh | hh
        · exact (List.getElem?_eq_some_iff.1 (drop_head hh)).1
        · exact (List.getElem?_eq_some_iff.1 (drop_head hh)).1
      unfold elemD
      rw [hk, if_pos hlt, prms_to 64 (q.length + 1) _ t ps hp h93 (by rw [List.length_drop]; omega)]
      simp only
      rw [if_pos h93, (trim_cons h93).2]
    · rw [if_neg (by simp [h93])] at h; cases h
/-- An element of right names, not too long, that the document reads, the program reads. -/
theorem elem_from {q r : List UInt8} {e : Elm} (h : elemD q = some (e, r)) (hn : elmName e) (hl : e.2.length ≤ 64) : elementL (91 :: q) = some (e, r) := by
  have ht : Lib.trimPrefix (91 :: q) [91] = q := (trim_cons (l := 91 :: q) (c := 91) rfl).2
  unfold elemD at h
  by_cases hE : atE q < q.length
  · rw [if_pos hE] at h
    cases hp : prmsD (q.length + 1) (q.drop (atE q)) with
    | none => rw [hp] at h; cases h
    | some p =>
      obtain ⟨ps, t⟩ := p
      rw [hp] at h
      simp only at h
      by_cases h93 : t.head? = some 93
      · rw [if_pos h93] at h
        cases h
        obtain ⟨n1, n2⟩ := hn
        rw [bytes_list] at n1
        obtain ⟨c, hc, hc2⟩ := atE_at hE
        have hk : nameAt q = atE q := nameAt_is hc (by rcases hc2 with rfl | rfl <;> decide) (name_before n1)
        unfold elementL
        rw [ht, hk, prms_from _ 64 _ t ps hp n2 hl]
        simp only [pre_cons]
        rw [if_pos (by simp [h93]), (trim_cons h93).2]
      · rw [if_neg h93] at h; cases h
  · rw [if_neg hE] at h; cases h
/-- Elements off a text, as the document reads them. -/
def elmsD : Nat → List UInt8 → Option (List Elm × List UInt8)
  | 0, _ => none
  | n + 1, l =>
    if l.head? = some 91 then
      match elemD l.tail with
      | some p => (elmsD n p.2).map fun z => (p.1 :: z.1, z.2)
      | none => none
    else some ([], l)
def elementsD (l : List UInt8) : Option (List Elm × List UInt8) :=
  if l.head? = some 45 then some ([], l.tail)
  else if l.head? = some 91 then elmsD (l.length + 1) l
  else none
theorem elemD_len {q r : List UInt8} {e : Elm} (_ : elemD q = some (e, r)) (h2 : elementL (91 :: q) = some (e, r)) : r.length < q.length + 1 := by
  have := element_sum h2
  have h3 : 2 ≤ (elmT e).length := by simp [elmT]; omega
  simp only [List.length_cons] at this
  omega
theorem elms_to : ∀ (n m : Nat) (l r : List UInt8) (es : List Elm), elmsL n l = some (es, r) → r.head? ≠ some 91 → l.length < m → elmsD m l = some (es, r)
  | 0, m, l, r, es, h, hr, hm => by
    cases h
    obtain ⟨m, rfl⟩ : ∃ k, m = k + 1 := ⟨m - 1, by omega⟩
    unfold elmsD; rw [if_neg hr]
  | n + 1, m, l, r, es, h, hr, hm => by
    obtain ⟨m, rfl⟩ : ∃ k, m = k + 1 := ⟨m - 1, by omega⟩
    unfold elmsL at h
    rw [pre_cons] at h
    by_cases h91 : l.head? = some 91
    · rw [if_pos (by simp [h91])] at h
      obtain ⟨e1, e2⟩ := trim_cons h91
      cases he : elementL l with
      | none => rw [he] at h; cases h
      | some p =>
        obtain ⟨e, t⟩ := p
        rw [he] at h
        simp only at h
        cases hz : elmsL n t with
        | none => rw [hz] at h; cases h
        | some z =>
          obtain ⟨zs, zr⟩ := z
          rw [hz] at h
          cases h
          have hE := elem_to (q := l.tail) (by rw [← e1]; exact he)
          have hlen := elemD_len hE (by rw [← e1]; exact he)
          have hl1 : l.length = l.tail.length + 1 := (congrArg List.length e1).trans rfl
          unfold elmsD
          rw [if_pos h91, hE]
          simp only [elms_to n m t zr zs hz hr (by omega)]
          rfl
    · rw [if_neg (by simp [h91])] at h
      cases h
      unfold elmsD; rw [if_neg h91]
theorem elms_from : ∀ (m n : Nat) (l r : List UInt8) (es : List Elm), elmsD m l = some (es, r) → (∀ e ∈ es, elmName e) → (∀ e ∈ es, e.2.length ≤ 64) → es.length ≤ n → elmsL n l = some (es, r) ∧ r.head? ≠ some 91
  | 0, n, l, r, es, h, _, _, _ => by cases h
  | m + 1, n, l, r, es, h, hn, hp, hl => by
    unfold elmsD at h
    by_cases h91 : l.head? = some 91
    · rw [if_pos h91] at h
      obtain ⟨e1, e2⟩ := trim_cons h91
      cases he : elemD l.tail with
      | none => rw [he] at h; cases h
      | some p =>
        obtain ⟨e, t⟩ := p
        rw [he] at h
        simp only at h
        cases hz : elmsD m t with
        | none => rw [hz] at h; cases h
        | some z =>
          obtain ⟨zs, zr⟩ := z
          rw [hz] at h
          cases h
          have hE := elem_from he (hn _ (List.mem_cons_self ..)) (hp _ (List.mem_cons_self ..))
          rw [← e1] at hE
          obtain ⟨n, rfl⟩ : ∃ k, n = k + 1 := ⟨n - 1, by simp at hl; omega⟩
          obtain ⟨i1, i2⟩ := elms_from m n t zr zs hz (fun e he => hn e (List.mem_cons_of_mem _ he)) (fun e he => hp e (List.mem_cons_of_mem _ he)) (by simp at hl; omega)
          refine ⟨?_, i2⟩
          unfold elmsL
          rw [pre_cons, if_pos (by simp [h91]), hE]
          simp only [i1]
          rfl
    · rw [if_neg h91] at h
      cases h
      refine ⟨?_, h91⟩
      cases n with
      | zero => rfl
      | succ n => unfold elmsL; rw [pre_cons, if_neg (by simp [h91])]
/-- Of right elements: both read the same. -/
theorem elements_agree {l r : List UInt8} {es : List Elm} (hd : dataB es = true) (h64 : es.length ≤ 64) (hp : ∀ e ∈ es, e.2.length ≤ 64) :
    (elementsL l = some (es, r) ∧ r.head? ≠ some 91) ∨ (elementsL l = some (es, r) ∧ l.head? = some 45) ↔ elementsD l = some (es, r) := by
  unfold elementsL elementsD
  rw [pre_cons]
  by_cases h45 : l.head? = some 45
  · rw [if_pos (by simp [h45]), if_pos h45, (trim_cons h45).2]
    constructor
    · rintro (⟨h, _⟩ | ⟨h, _⟩) <;> exact h
    · intro h; exact .inr ⟨h, h45⟩
  · rw [if_neg (by simp [h45]), if_neg h45]
    constructor
    · rintro (⟨h, hr⟩ | ⟨_, h⟩)
      · cases hz : elmsL 64 l with
        | none => rw [hz] at h; cases h
        | some z =>
          obtain ⟨zs, zr⟩ := z
          rw [hz] at h
          simp only at h
          split at h
          · cases h
          · rename_i hne
            cases h
            by_cases h91 : l.head? = some 91
            · rw [if_pos h91]
              exact elms_to 64 _ l r es hz hr (by omega)
            · exfalso
              unfold elmsL at hz
              rw [pre_cons, if_neg (by simp [h91])] at hz
              cases hz
              exact hne rfl
      · exact absurd h h45
    · intro h
      by_cases h91 : l.head? = some 91
      · rw [if_pos h91] at h
        obtain ⟨i1, i2⟩ := elms_from _ 64 l r es h (data_names hd) hp h64
        rw [i1]
        simp only
        refine .inl ⟨?_, i2⟩
        rw [if_neg]
        rintro rfl
        unfold elmsD at h
        rw [if_pos h91] at h
        cases he : elemD l.tail with
        | none => rw [he] at h; cases h
        | some p =>
          rw [he] at h
          simp only at h
          cases hz : elmsD l.length p.2 with
          | none => rw [hz] at h; cases h
          | some z => rw [hz] at h; cases h
      · rw [if_neg h91] at h; cases h
end Go.Proofs.YtmmghppjhmdikaaGreatDoor
/- A right event is told by a text to the program just if it is told to the document. No program is spoken of. -/
namespace Go.Proofs.YtmmghppjhmdikaaGreatDoor
open Go.ChangeShapes Go.WideShapes Go.ChangeAt Go.RowKit
open Cal (nanosI ParsedAs)

theorem cut_rev (c : UInt8) : ∀ l p r : List UInt8, Lib.cut l [c] = (p, r, true) → l = p ++ c :: r ∧ ∀ x ∈ p, x ≠ c
  | [], p, r, h => by
    have h2 := congrArg (fun x => x.2.2) h
    revert h2
    unfold Lib.cut Lib.index
    simp
  | x :: l, p, r, h => by
    by_cases hx : x = c
    · subst hx
      rw [cut_here] at h
      cases h
      exact ⟨rfl, by simp⟩
    · rcases hq : Lib.cut l [c] with ⟨p', r', b⟩
      cases b with
      | true =>
        rw [cut_next x c l p' r' hx hq] at h
        cases h
        obtain ⟨i1, i2⟩ := cut_rev c l p' _ hq
        refine ⟨by rw [List.cons_append, ← i1], fun y hy => ?_⟩
        rcases List.mem_cons.1 hy with rfl | hy
        · exact hx
        · exact i2 y hy
      | false =>
        exfalso
        have h0 : ¬ 0 ≤ Lib.index l [c] := by
          intro h0
          unfold Lib.cut at hq
          rw [if_pos h0] at hq
          cases hq
        have hge := Lib.index_ge l [c]
        have e : Lib.index (x :: l) [c] = -1 := by
          rw [Lib.index]
          have e1 : Lib.index l [c] = -1 := by omega
          simp [List.isPrefixOf, Ne.symm hx, e1]
        unfold Lib.cut at h
        rw [if_neg (by rw [e]; decide)] at h
        cases h
theorem until_rev {c : UInt8} {l p r : List UInt8} (h : untilL [c] (l, true) = (p, r, true)) : l = p ++ c :: r ∧ ∀ x ∈ p, x ≠ c := by
  unfold untilL at h
  refine cut_rev c l p r ?_
  have h1 := congrArg (fun x => x.1) h
  have h2 := congrArg (fun x => x.2.1) h
  have h3 := congrArg (fun x => x.2.2) h
  simp only [Bool.true_and] at h1 h2 h3
  rw [← h1, ← h2, ← h3]
theorem until_of {c : UInt8} {p r : List UInt8} (h : ∀ x ∈ p, x ≠ c) : untilL [c] (p ++ c :: r, true) = (p, r, true) :=
  until_at c p r fun x hx => by have := h x hx; simp [this]
theorem told_rev {l x r : List UInt8} (h : toldL (l, true) = (x, r, true)) : ∃ p, l = p ++ 32 :: r ∧ (∀ b ∈ p, b ≠ 32) ∧ p ≠ [] ∧ x = if p = [45] then [] else p := by
  rcases hu : untilL [32] (l, true) with ⟨p, r', f⟩
  unfold toldL at h
  rw [hu] at h
  have h1 := congrArg (fun x => x.1) h
  have h2 := congrArg (fun x => x.2.1) h
  have h3 := congrArg (fun x => x.2.2) h
  simp only [Bool.and_eq_true, decide_eq_true_eq] at h1 h2 h3
  subst h2
  rw [h3.1] at hu
  obtain ⟨i1, i2⟩ := until_rev hu
  exact ⟨p, i1, i2, h3.2, h1.symm⟩
theorem told_of {p r : List UInt8} (h : ∀ b ∈ p, b ≠ 32) (h0 : p ≠ []) : toldL (p ++ 32 :: r, true) = (if p = [45] then [] else p, r, true) :=
  told_at p r (fun x hx => by have := h x hx; simp [this]) h0
/-- The date's part, as the document reads it. -/
def DateD (l : List UInt8) (td : Bool) (at' : Int) (r : List UInt8) : Prop :=
  (Lib.hasPrefix l [45, 32] = true ∧ r = l.drop 2 ∧ td = false ∧ at' = 0) ∨
  (Lib.hasPrefix l [45, 32] = false ∧ td = true ∧ ∃ y m d h i s n z : Int, ParsedAs l y m d h i s n z (32 :: r) 0 ∧ at' = nanosI y m d h i s n z)
theorem date_agree {l r : List UInt8} {td : Bool} {at' : Int} : (∃ date, toldL (l, true) = (date, r, true) ∧ MomIs date td at') ↔ DateD l td at' r := by
  constructor
  · rintro ⟨date, h1, h2⟩
    obtain ⟨p, rfl, hp, hne, rfl⟩ := told_rev h1
    by_cases h45 : p = [45]
    · subst h45
      rw [if_pos rfl] at h2
      rcases h2 with ⟨_, rfl, rfl⟩ | ⟨h, _⟩
      · exact .inl ⟨by show List.isPrefixOf [45, 32] (45 :: 32 :: r) = true; simp [List.isPrefixOf], rfl, rfl, rfl⟩
      · exact absurd rfl h
    · rw [if_neg h45] at h2
      have hnp : Lib.hasPrefix (p ++ 32 :: r) [45, 32] = false := by
        cases hx : Lib.hasPrefix (p ++ 32 :: r) [45, 32] with
        | false => rfl
        | true =>
          exfalso
          obtain ⟨t, ht, _⟩ := pre_two.1 hx
          match p, hne, h45, hp with
          | [], hne, _, _ => exact hne rfl
          | [a], _, h45, _ =>
            simp only [List.cons_append, List.nil_append, List.cons.injEq] at ht
            exact h45 (by rw [ht.1])
          | a :: b :: p, _, _, hp =>
            simp only [List.cons_append, List.cons.injEq] at ht
            exact hp b (by simp) ht.2.1
      rcases h2 with ⟨h, _⟩ | ⟨_, rfl, y, m, d, h, i, s, n, z, hq, rfl⟩
      · exact absurd h hne
      · rcases Cal.parsed_tail r hq with ⟨_, hq2⟩ | ⟨h3, _⟩
        · exact .inr ⟨hnp, rfl, y, m, d, h, i, s, n, z, hq2, rfl⟩
        · cases h3
  · rintro (⟨h, rfl, rfl, rfl⟩ | ⟨hnp, rfl, y, m, d, h, i, s, n, z, hq, rfl⟩)
    · obtain ⟨t, rfl, _⟩ := pre_two.1 h
      exact ⟨[], told_none t, .inl ⟨rfl, rfl, rfl⟩⟩
    · obtain ⟨_, _, P, hP⟩ := Cal.parsed_right hq rfl
      -- the first blank
      have hmem : (32 : UInt8) ∈ l := by rw [hP]; simp
      obtain ⟨p, r', rfl, hp⟩ : ∃ p r', l = p ++ 32 :: r' ∧ ∀ b ∈ p, b ≠ 32 := by
        obtain ⟨a, b, hab, hn⟩ := List.eq_append_cons_of_mem hmem
        exact ⟨a, b, hab, fun x hx he => hn (he ▸ hx)⟩
      obtain ⟨y', m', d', h', i', s', n', z', t', err', hq'⟩ := Cal.parsed_all p
      rcases Cal.parsed_tail r' hq' with ⟨rfl, hq2⟩ | ⟨rfl, hq2⟩
      · obtain ⟨rfl, rfl, rfl, rfl, rfl, rfl, rfl, rfl, ht, _⟩ := parsed_one hq hq2
        obtain ⟨_, hlt, P', hP'⟩ := Cal.parsed_right hq' rfl
        have ht0 : t' = [] := by
          cases t' with
          | nil => rfl
          | cons c t' =>
            simp only [List.cons_append, List.cons.injEq] at ht
            exact absurd ht.1.symm (hp c (by rw [hP']; simp))
        subst ht0
        simp only [List.nil_append, List.cons.injEq, true_and] at ht
        subst ht
        have hne : p ≠ [] := by rintro rfl; simp at hlt
        have h45 : p ≠ [45] := by
          rintro rfl
          revert hnp
          show ¬ (List.isPrefixOf [45, 32] (45 :: 32 :: r) = false)
          simp [List.isPrefixOf]
        refine ⟨p, ?_, .inr ⟨hne, rfl, _, _, _, _, _, _, _, _, hq', rfl⟩⟩
        rw [told_of hp hne, if_neg h45]
      · obtain ⟨_, _, _, _, _, _, _, _, _, h0⟩ := parsed_one hq hq2
        cases h0
/-- The parts that a text tells, as the document reads them. -/
def DReads (l : List UInt8) (gr fr at' : Int) (td : Bool) (h a p i tx : List UInt8) (es : List Elm) : Prop :=
  ∃ (k : Nat) (r3 r4 r5 r6 r7 r8 r9 : List UInt8), l = 60 :: (Lib.decDigits k ++ 62 :: 49 :: 32 :: r3) ∧ k ≤ 191 ∧ gr = (k : Int) % 8 ∧ fr = (k : Int) / 8 ∧ DateD r3 td at' r4 ∧
    toldL (r4, true) = (h, r5, true) ∧ toldL (r5, true) = (a, r6, true) ∧ toldL (r6, true) = (p, r7, true) ∧ toldL (r7, true) = (i, r8, true) ∧ elementsD r8 = some (es, r9) ∧ behindL r9 = (tx, true)
theorem origin_of (k : Nat) (hk : k ≤ 191) : originL (Lib.decDigits k) = some ((k : Int) / 8, (k : Int) % 8) := by
  have hl := dec_len k (by omega)
  unfold originL
  rw [Lib.atoiAll_short _ (by omega), atoi_dec k (by omega)]
  have hit : Lib.itoa (k : Int) = Lib.decDigits k := by
    unfold Lib.itoa
    rw [if_neg (by omega), Int.toNat_natCast]
  show (if Lib.itoa (k : Int) = Lib.decDigits k then some ((k : Int).tdiv 8, (k : Int).tmod 8) else none) = _
  rw [if_pos hit, Int.tdiv_eq_ediv_of_nonneg (by omega), Int.tmod_eq_emod_of_nonneg (by omega)]
theorem origin_rev {dec : List UInt8} {fr gr : Int} (h : originL dec = some (fr, gr)) (hf : 0 ≤ fr ∧ fr ≤ 23) (hg : 0 ≤ gr ∧ gr ≤ 7) : ∃ k : Nat, dec = Lib.decDigits k ∧ k ≤ 191 ∧ gr = (k : Int) % 8 ∧ fr = (k : Int) / 8 := by
  unfold originL at h
  split at h
  · rename_i v hv
    split at h
    · rename_i hit
      cases h
      have e : 8 * v.tdiv 8 + v.tmod 8 = v := by first | exact Int.mul_tdiv_add_tmod v 8 | exact Int.tdiv_add_tmod' v 8
      have h0 : 0 ≤ v := by omega
      rw [Int.tdiv_eq_ediv_of_nonneg h0] at hf e ⊢
      rw [Int.tmod_eq_emod_of_nonneg h0] at hg e ⊢
      refine ⟨v.toNat, ?_, by omega, by omega, by omega⟩
      rw [← hit]
      unfold Lib.itoa
      rw [if_neg (by omega)]
    · cases h
  · cases h
theorem behind_no91 {l tx : List UInt8} (h : behindL l = (tx, true)) : l.head? ≠ some 91 := by
  unfold behindL at h
  split at h
  · rename_i h0; subst h0; decide
  · have h2 := congrArg (fun x => x.2) h
    simp only [Bool.and_eq_true] at h2
    have h3 := h2.1
    rw [pre_cons] at h3
    intro h91
    rw [h91] at h3
    revert h3
    decide
/-- Of a right event: both read it of the same texts. -/
theorem reads_agree {l : List UInt8} {gr fr at' : Int} {td : Bool} {h a p i tx : List UInt8} {es : List Elm} (hR : rightE ⟨gr, fr, td, at', bytes h, bytes a, bytes p, bytes i, es, bytes tx⟩ = 0) :
    Reads l gr fr at' td h a p i tx es ↔ DReads l gr fr at' td h a p i tx es := by
  obtain ⟨hg, hf, _, _, hd, _, h64, hp64⟩ := right_parts hR
  constructor
  · rintro ⟨r1, r2, r3, r4, r5, r6, r7, r8, r9, dec, date, h1, h2, h3, k1, k2, k3, k4, k5, ho, hMI, he, hbh⟩
    obtain ⟨rfl, _⟩ := until_rev h1
    obtain ⟨rfl, _⟩ := until_rev h2
    obtain ⟨rfl, _⟩ := until_rev h3
    obtain ⟨k, rfl, hk, hgr, hfr⟩ := origin_rev ho hf hg
    exact ⟨k, r3, r4, r5, r6, r7, r8, r9, rfl, hk, hgr, hfr, date_agree.1 ⟨date, k1, hMI⟩, k2, k3, k4, k5, (elements_agree hd h64 hp64).1 (.inl ⟨he, behind_no91 hbh⟩), hbh⟩
  · rintro ⟨k, r3, r4, r5, r6, r7, r8, r9, rfl, hk, rfl, rfl, hD, k2, k3, k4, k5, he, hbh⟩
    obtain ⟨date, k1, hMI⟩ := date_agree.2 hD
    refine ⟨_, _, r3, r4, r5, r6, r7, r8, r9, Lib.decDigits k, date, until_here 60 _, until_at 62 _ _ (dec_digs (by omega)), until_one 49 32 _ (by decide), k1, k2, k3, k4, k5, origin_of k hk, hMI, ?_, hbh⟩
    rcases (elements_agree hd h64 hp64).2 he with ⟨h, _⟩ | ⟨h, _⟩ <;> exact h
end Go.Proofs.YtmmghppjhmdikaaGreatDoor
/- What the document's own Parse reads of a text, step by step, as lists: where it gives up, no right event is told. No program is spoken of. -/
namespace Go.Proofs.YtmmghppjhmdikaaGreatDoor
open Go.ChangeShapes Go.WideShapes Go.ChangeAt Go.RowKit
open Cal (nanosI ParsedAs numOf isDig)

theorem dec3_num : ∀ n : Fin 1000, numOf (dec3 n.val) = (n.val : Int) ∧ (dec3 n.val).all isDig = true ∧ 0 < (dec3 n.val).length := by decide +kernel
theorem dec_num (n : Nat) (h : n < 1000) : numOf (Lib.decDigits n) = (n : Int) ∧ (∀ c ∈ Lib.decDigits n, isDig c = true) ∧ 0 < (Lib.decDigits n).length ∧ (Lib.decDigits n).length ≤ 3 := by
  obtain ⟨h1, h2, h3⟩ := dec3_num ⟨n, h⟩
  have hl := dec_len n h
  rw [dec3_eq n h] at hl ⊢
  exact ⟨h1, List.all_eq_true.1 h2, h3, hl⟩
/-- Four words off a text. -/
def wordsN : Nat → List UInt8 → Option (List (List UInt8) × List UInt8)
  | 0, r => some ([], r)
  | n + 1, r => if (toldL (r, true)).2.2 = true then (wordsN n (toldL (r, true)).2.1).map fun z => ((toldL (r, true)).1 :: z.1, z.2) else none
theorem words_yes {n : Nat} {r x r' : List UInt8} (h : toldL (r, true) = (x, r', true)) : wordsN (n + 1) r = (wordsN n r').map fun z => (x :: z.1, z.2) := by
  rw [wordsN, h, if_pos rfl]
theorem words_no {n : Nat} {r : List UInt8} (h : (toldL (r, true)).2.2 = false) : wordsN (n + 1) r = none := by
  rw [wordsN, h, if_neg (by decide)]
theorem words_rev {n : Nat} {r r' : List UInt8} {x : List UInt8} {xs : List (List UInt8)} (h : wordsN (n + 1) r = some (x :: xs, r')) : ∃ r1, toldL (r, true) = (x, r1, true) ∧ wordsN n r1 = some (xs, r') := by
  unfold wordsN at h
  split at h
  · rename_i h1
    cases hz : wordsN n (toldL (r, true)).2.1 with
    | none => rw [hz] at h; cases h
    | some z =>
      rw [hz] at h
      cases h
      exact ⟨_, Prod.ext rfl (Prod.ext rfl h1), hz⟩
  · cases h
/-- The head of a text. -/
def HeadD (l : List UInt8) (k : Nat) (r : List UInt8) : Prop := l = 60 :: (Lib.decDigits k ++ 62 :: 49 :: 32 :: r) ∧ k ≤ 191
/-- The text tells no right event. -/
def NoD (l : List UInt8) : Prop := ∀ gr fr at' td h a p i tx es, DReads l gr fr at' td h a p i tx es → rightE ⟨gr, fr, td, at', bytes h, bytes a, bytes p, bytes i, es, bytes tx⟩ ≠ 0
theorem dreads_iff {l : List UInt8} {gr fr at' : Int} {td : Bool} {h a p i tx : List UInt8} {es : List Elm} :
    DReads l gr fr at' td h a p i tx es ↔ ∃ k r3 r4 r8 r9, HeadD l k r3 ∧ gr = (k : Int) % 8 ∧ fr = (k : Int) / 8 ∧ DateD r3 td at' r4 ∧ wordsN 4 r4 = some ([h, a, p, i], r8) ∧ elementsD r8 = some (es, r9) ∧ behindL r9 = (tx, true) := by
  constructor
  · rintro ⟨k, r3, r4, r5, r6, r7, r8, r9, hl, hk, hg, hf, hD, k2, k3, k4, k5, he, hb⟩
    exact ⟨k, r3, r4, r8, r9, ⟨hl, hk⟩, hg, hf, hD, by rw [words_yes k2, words_yes k3, words_yes k4, words_yes k5]; rfl, he, hb⟩
  · rintro ⟨k, r3, r4, r8, r9, ⟨hl, hk⟩, hg, hf, hD, hw, he, hb⟩
    obtain ⟨r5, k2, hw⟩ := words_rev hw
    obtain ⟨r6, k3, hw⟩ := words_rev hw
    obtain ⟨r7, k4, hw⟩ := words_rev hw
    obtain ⟨r8', k5, hw⟩ := words_rev hw
    cases hw
    exact ⟨k, r3, r4, r5, r6, r7, r8, r9, hl, hk, hg, hf, hD, k2, k3, k4, k5, he, hb⟩
theorem head_one {l r r' : List UInt8} {k k' : Nat} (h : HeadD l k r) (g : HeadD l k' r') : k = k' ∧ r = r' := by
  obtain ⟨rfl, hk⟩ := h
  obtain ⟨hl, hk'⟩ := g
  have u1 := until_at 62 (Lib.decDigits k) (49 :: 32 :: r) (dec_digs (by omega))
  have u2 := until_at 62 (Lib.decDigits k') (49 :: 32 :: r') (dec_digs (by omega))
  rw [List.cons.injEq] at hl
  rw [← hl.2, u1] at u2
  simp only [Prod.mk.injEq, List.cons.injEq, true_and, and_true] at u2
  refine ⟨?_, u2.2⟩
  have o1 := origin_of k hk
  rw [u2.1, origin_of k' hk'] at o1
  simp only [Option.some.injEq, Prod.mk.injEq] at o1
  omega
theorem date_one {l r r' : List UInt8} {td td' : Bool} {a a' : Int} (h : DateD l td a r) (g : DateD l td' a' r') : td = td' ∧ a = a' ∧ r = r' := by
  obtain ⟨d1, h1, h2⟩ := date_agree.2 h
  obtain ⟨d2, g1, g2⟩ := date_agree.2 g
  rw [h1] at g1
  simp only [Prod.mk.injEq, and_true] at g1
  obtain ⟨rfl, rfl⟩ := g1
  obtain ⟨rfl, rfl⟩ := mom_one h2 g2
  exact ⟨rfl, rfl, rfl⟩
/-- What stands in a head. -/
theorem head_facts {l r : List UInt8} {k : Nat} (h : HeadD l k r) :
    l.head? = some 60 ∧ atB l 62 = 1 + (Lib.decDigits k).length ∧ l.drop (atB l 62) = 62 :: 49 :: 32 :: r ∧ 2 ≤ atB l 62 ∧ atB l 62 ≤ 4 ∧ atB l 62 < l.length ∧ (l.take (atB l 62)).drop 1 = Lib.decDigits k ∧ (∀ c ∈ (l.take (atB l 62)).drop 1, isDig c = true) ∧ numOf ((l.take (atB l 62)).drop 1) = (k : Int) := by
  obtain ⟨rfl, hk⟩ := h
  obtain ⟨n1, n2, n3, n4⟩ := dec_num k (by omega)
  have e : 60 :: (Lib.decDigits k ++ 62 :: 49 :: 32 :: r) = (60 :: Lib.decDigits k) ++ 62 :: 49 :: 32 :: r := rfl
  have hz : (60 :: Lib.decDigits k).length = 1 + (Lib.decDigits k).length := by simp; omega
  have hat : atB (60 :: (Lib.decDigits k ++ 62 :: 49 :: 32 :: r)) 62 = 1 + (Lib.decDigits k).length := by
    rw [e, ← hz]
    refine atB_is (by rw [List.getElem?_append_right (Nat.le_refl _)]; simp) fun b hb => ?_
    rw [List.take_left' rfl] at hb
    rcases List.mem_cons.1 hb with rfl | hb
    · decide
    · have := dec_digs (n := k) (by omega) b hb
      simpa using this
  rw [hat]
  have htk : ((60 :: (Lib.decDigits k ++ 62 :: 49 :: 32 :: r)).take (1 + (Lib.decDigits k).length)).drop 1 = Lib.decDigits k := by
    rw [e, ← hz, List.take_left' rfl]; rfl
  refine ⟨rfl, rfl, ?_, by omega, by omega, ?_, htk, by rw [htk]; exact n2, by rw [htk]; exact n1⟩
  · rw [e, ← hz, List.drop_left' rfl]
  · rw [e, List.length_append, ← hz]; simp
/-- Where all this stands, there is a head. -/
theorem head_of {l : List UInt8} {p : Nat} (h0 : l.head? = some 60) (hp : 2 ≤ p) (h1 : Lib.hasPrefix (l.drop p) [62, 49, 32] = true) (k : Nat) (hk : k ≤ 191) (hd : Lib.decDigits k = (l.take p).drop 1) : HeadD l k (l.drop (p + 3)) := by
  refine ⟨?_, hk⟩
  obtain ⟨t, ht⟩ := List.isPrefixOf_iff_prefix.1 (show List.isPrefixOf [62, 49, 32] (l.drop p) = true from h1)
  have ht2 : l.drop p = 62 :: 49 :: 32 :: t := ht.symm
  have hd3 : l.drop (p + 3) = t := by rw [← List.drop_drop, ht2]; rfl
  rw [hd3, hd, ← ht2]
  obtain ⟨e1, _⟩ := trim_cons h0
  obtain ⟨q, rfl⟩ : ∃ q, p = q + 1 := ⟨p - 1, by omega⟩
  conv => lhs; rw [e1]
  rw [e1, List.take_succ_cons, List.drop_succ_cons, List.drop_succ_cons, List.drop_zero, List.take_append_drop]
  rfl
theorem no_head {l : List UInt8} (h : ∀ k r, ¬ HeadD l k r) : NoD l := fun gr fr at' td ho a p i tx es hx => by
  obtain ⟨k, r3, r4, r8, r9, hh, _⟩ := dreads_iff.1 hx
  exact absurd hh (h _ _)
theorem no_date {l r3 : List UInt8} {k : Nat} (hh : HeadD l k r3) (h : ∀ td a r, ¬ DateD r3 td a r) : NoD l := fun gr fr at' td ho a p i tx es hx => by
  obtain ⟨k', r3', r4, r8, r9, hh', _, _, hD, _⟩ := dreads_iff.1 hx
  obtain ⟨rfl, rfl⟩ := head_one hh hh'
  exact absurd hD (h _ _ _)
theorem no_words {l r3 r4 : List UInt8} {k : Nat} {td : Bool} {a0 : Int} (hh : HeadD l k r3) (hD : DateD r3 td a0 r4) (h : wordsN 4 r4 = none) : NoD l := fun gr fr at' td ho a p i tx es hx => by
  obtain ⟨k', r3', r4', r8, r9, hh', _, _, hD', hw, _⟩ := dreads_iff.1 hx
  obtain ⟨rfl, rfl⟩ := head_one hh hh'
  obtain ⟨rfl, rfl, rfl⟩ := date_one hD hD'
  rw [h] at hw; cases hw
theorem no_elems {l r3 r4 r8 : List UInt8} {k : Nat} {td : Bool} {a0 : Int} {ws : List (List UInt8)} (hh : HeadD l k r3) (hD : DateD r3 td a0 r4) (hw : wordsN 4 r4 = some (ws, r8)) (h : elementsD r8 = none) : NoD l := fun gr fr at' td ho a p i tx es hx => by
  obtain ⟨k', r3', r4', r8', r9, hh', _, _, hD', hw', he, _⟩ := dreads_iff.1 hx
  obtain ⟨rfl, rfl⟩ := head_one hh hh'
  obtain ⟨rfl, rfl, rfl⟩ := date_one hD hD'
  rw [hw] at hw'
  cases hw'
  rw [h] at he; cases he
theorem no_behind {l r3 r4 r8 r9 : List UInt8} {k : Nat} {td : Bool} {a0 : Int} {ws : List (List UInt8)} {es : List Elm} (hh : HeadD l k r3) (hD : DateD r3 td a0 r4) (hw : wordsN 4 r4 = some (ws, r8)) (he : elementsD r8 = some (es, r9)) (h : (behindL r9).2 = false) : NoD l := fun gr fr at' td ho a p i tx es hx => by
  obtain ⟨k', r3', r4', r8', r9', hh', _, _, hD', hw', he', hb⟩ := dreads_iff.1 hx
  obtain ⟨rfl, rfl⟩ := head_one hh hh'
  obtain ⟨rfl, rfl, rfl⟩ := date_one hD hD'
  rw [hw] at hw'
  cases hw'
  rw [he] at he'
  cases he'
  rw [hb] at h; cases h
theorem no_right {l r3 r4 r8 r9 h a p i tx : List UInt8} {k : Nat} {td : Bool} {a0 : Int} {es : List Elm} (hh : HeadD l k r3) (hD : DateD r3 td a0 r4) (hw : wordsN 4 r4 = some ([h, a, p, i], r8)) (he : elementsD r8 = some (es, r9)) (hb : behindL r9 = (tx, true))
    (hR : rightE ⟨(k : Int) % 8, (k : Int) / 8, td, a0, bytes h, bytes a, bytes p, bytes i, es, bytes tx⟩ ≠ 0) : NoD l := fun gr fr at' td ho a p i tx es hx => by
  obtain ⟨k', r3', r4', r8', r9', hh', hg, hf, hD', hw', he', hb'⟩ := dreads_iff.1 hx
  obtain ⟨rfl, rfl⟩ := head_one hh hh'
  obtain ⟨rfl, rfl, rfl⟩ := date_one hD hD'
  rw [hw] at hw'
  cases hw'
  rw [he] at he'
  cases he'
  rw [hb] at hb'
  cases hb'
  rw [hg, hf]
  exact hR
/-- A text tells one event. -/
theorem dreads_one {l : List UInt8} {gr fr at' gr' fr' at'' : Int} {td td' : Bool} {h a p i tx h' a' p' i' tx' : List UInt8} {es es' : List Elm} (hx : DReads l gr fr at' td h a p i tx es) (hy : DReads l gr' fr' at'' td' h' a' p' i' tx' es') :
    gr = gr' ∧ fr = fr' ∧ at' = at'' ∧ td = td' ∧ h = h' ∧ a = a' ∧ p = p' ∧ i = i' ∧ tx = tx' ∧ es = es' := by
  obtain ⟨k, r3, r4, r8, r9, hh, rfl, rfl, hD, hw, he, hb⟩ := dreads_iff.1 hx
  obtain ⟨k', r3', r4', r8', r9', hh', rfl, rfl, hD', hw', he', hb'⟩ := dreads_iff.1 hy
  obtain ⟨rfl, rfl⟩ := head_one hh hh'
  obtain ⟨rfl, rfl, rfl⟩ := date_one hD hD'
  rw [hw] at hw'
  cases hw'
  rw [he] at he'
  cases he'
  rw [hb] at hb'
  cases hb'
  exact ⟨rfl, rfl, rfl, rfl, rfl, rfl, rfl, rfl, rfl, rfl⟩
/-- What the document's Parse answers. -/
def RefParseAns (l : List UInt8) (w : World) (x : Ending) (w' : World) : Prop :=
  (BadAns w x w' ∧ NoD l) ∨
  ∃ gr fr at' td h a p i tx es, DReads l gr fr at' td h a p i tx es ∧ rightE ⟨gr, fr, td, at', bytes h, bytes a, bytes p, bytes i, es, bytes tx⟩ = 0 ∧ GoodAns gr fr td at' h a p i tx es w x w'
end Go.Proofs.YtmmghppjhmdikaaGreatDoor
/- The steps of the document's own Parse, as lists: the date, a word, an element, what stands behind. No program is spoken of. -/
namespace Go.Proofs.YtmmghppjhmdikaaGreatDoor
open Go.ChangeShapes Go.WideShapes Go.ChangeAt Go.RowKit
open Cal (nanosI ParsedAs numOf isDig rightB)

/-! ### the date -/
theorem date_no {l : List UInt8} {y m d h i s n z err : Int} {t : List UInt8} (h45 : Lib.hasPrefix l [45, 32] = false) (hq : ParsedAs l y m d h i s n z t err) (hn : err ≠ 0 ∨ ∀ r, t ≠ 32 :: r) : ∀ td a r, ¬ DateD l td a r := by
  rintro td a r (⟨h, _⟩ | ⟨_, _, y', m', d', h', i', s', n', z', hq', _⟩)
  · rw [h45] at h; cases h
  · obtain ⟨_, _, _, _, _, _, _, _, ht, he⟩ := parsed_one hq hq'
    rcases hn with hn | hn
    · exact hn he
    · exact hn r ht
theorem date_yes {l : List UInt8} {y m d h i s n z : Int} {r : List UInt8} (h45 : Lib.hasPrefix l [45, 32] = false) (hq : ParsedAs l y m d h i s n z (32 :: r) 0) : DateD l true (nanosI y m d h i s n z) r :=
  .inr ⟨h45, rfl, y, m, d, h, i, s, n, z, hq, rfl⟩
theorem err_three {l t : List UInt8} {y m d h i s n z err : Int} (hq : ParsedAs l y m d h i s n z t err) : err = 0 ∨ err = 3 := by
  obtain ⟨t1, t2, t3, t4, t5, t6, e1, e2, e3, e4, e5, e6, hc⟩ := hq
  rcases hc with ⟨_, _, _, _, _, _, _, _, _, _, h⟩ | ⟨_, N, Z, _, _, ⟨_, _, _, _, _, _, _, _, _, _, h⟩ | ⟨_, _, _, _, _, _, _, _, _, _, h⟩⟩
  · exact .inr h
  · exact .inl h
  · exact .inr h
theorem rparse_is {l t : List UInt8} {y m d h i s n z err : Int} (hq : ParsedAs l y m d h i s n z t err) {w : World} {e : Ending} {w' : World} (ha : Cal.RParseAns l w e w') :
    e = .returned (.tuple #[.agg #[.int .i64 y, .int .i64 m, .int .i64 d, .int .i64 h, .int .i64 i, .int .i64 s, .int .i64 n, .int .i64 z], .string (bytes t), .int .i64 err]) ∧ Below w.heap.size w w' := by
  obtain ⟨y', m', d', h', i', s', n', z', t', err', he, hr, hb⟩ := ha
  rw [Cal.parsed_ref hq] at hr
  simp only [Prod.mk.injEq] at hr
  obtain ⟨rfl, rfl, rfl, rfl, rfl, rfl, rfl, rfl, rfl, rfl⟩ := hr
  exact ⟨he, hb⟩
theorem suffix_drop {L t : List UInt8} {k : Nat} (h : ∃ P, L.drop k = P ++ t) (hk : k ≤ L.length) : t.length ≤ L.length - k ∧ L.drop (L.length - t.length) = t := by
  obtain ⟨P, hP⟩ := h
  have hl := congrArg List.length hP
  rw [List.length_drop, List.length_append] at hl
  refine ⟨by omega, ?_⟩
  rw [show L.length - t.length = k + P.length by omega, ← List.drop_drop, hP, List.drop_left' rfl]

theorem pre_len {l t : List UInt8} (h : Lib.hasPrefix l t = true) : t.length ≤ l.length := (List.isPrefixOf_iff_prefix.1 (show List.isPrefixOf t l = true from h)).length_le

theorem byte0 {c : UInt8} {r : List UInt8} {T : ByteArray} (h : bytes (c :: r) = T) (hp : 0 < T.size) : T[0]'hp = c := by subst h; rfl

/-! ### a word -/
theorem told_some {q : List UInt8} (h : (toldL (q, true)).2.2 = true) : atB q 32 < q.length ∧ atB q 32 ≠ 0 := by
  obtain ⟨p, hq, hp, hne, _⟩ := told_rev (show toldL (q, true) = ((toldL (q, true)).1, (toldL (q, true)).2.1, true) from Prod.ext rfl (Prod.ext rfl h))
  have ha : atB q 32 = p.length := by
    refine atB_is ?_ fun b hb => ?_
    · rw [hq, List.getElem?_append_right (Nat.le_refl _)]; simp
    · rw [hq, List.take_left' rfl] at hb; exact hp b hb
  have hl := congrArg List.length hq
  simp only [List.length_append, List.length_cons] at hl
  have := List.length_pos_iff.2 hne
  rw [ha]
  omega
theorem told_no {q : List UInt8} (h : ¬ atB q 32 < q.length ∨ atB q 32 = 0) : (toldL (q, true)).2.2 = false := by
  cases hx : (toldL (q, true)).2.2 with
  | false => rfl
  | true =>
    obtain ⟨h1, h2⟩ := told_some hx
    rcases h with h | h
    · exact absurd h1 h
    · exact absurd h h2
theorem told_yes {q : List UInt8} (h : atB q 32 < q.length) (h0 : atB q 32 ≠ 0) : toldL (q, true) = (if q.take (atB q 32) = [45] then [] else q.take (atB q 32), q.drop (atB q 32 + 1), true) := by
  have hat := atB_at h
  have e : q = q.take (atB q 32) ++ 32 :: q.drop (atB q 32 + 1) := by
    conv => lhs; rw [← List.take_append_drop (atB q 32) q]
    rw [(head_at hat).1]
  conv => lhs; rw [e]
  refine told_of atB_before fun hn => ?_
  have := congrArg List.length hn
  rw [List.length_take] at this
  simp only [List.length_nil] at this
  omega

/-! ### elements -/
theorem prmsD_end : ∀ (n : Nat) (l : List UInt8) (p : List Prm × List UInt8), prmsD n l = some p → ∃ a, l = a ++ p.2
  | 0, l, p, h => by cases h
  | n + 1, l, p, h => by
    unfold prmsD at h
    split at h
    · rename_i h1
      obtain ⟨e1, _⟩ := trim_cons h1
      split at h
      · split at h
        · rename_i q hq
          split at h
          · cases h
          · cases hz : prmsD n q.2 with
            | none => rw [hz] at h; cases h
            | some z =>
              rw [hz] at h
              cases h
              obtain ⟨a, ha⟩ := prmsD_end n q.2 z hz
              obtain ⟨b, hb⟩ := takeV_end2 _ _ q (Nat.le_refl _) hq
              refine ⟨32 :: (l.tail.take (atB l.tail 61 + 2) ++ b ++ a), ?_⟩
              rw [List.cons_append, List.append_assoc, List.append_assoc, ← ha, ← hb, List.take_append_drop]
              exact e1
        · cases h
      · cases h
    · cases h; exact ⟨[], rfl⟩
theorem elemD_end {q t : List UInt8} {e : Elm} (h : elemD q = some (e, t)) : ∃ a, a ≠ [] ∧ q = a ++ t := by
  unfold elemD at h
  split at h
  · split at h
    · rename_i p hp
      split at h
      · rename_i h93
        cases h
        obtain ⟨a, ha⟩ := prmsD_end _ _ _ hp
        obtain ⟨e1, _⟩ := trim_cons h93
        refine ⟨q.take (atE q) ++ a ++ [93], by simp, ?_⟩
        rw [List.append_assoc, List.append_assoc, show [93] ++ p.2.tail = p.2 from e1.symm, ← ha, List.take_append_drop]
      · cases h
    · cases h
  · cases h
theorem elmsD_stop {n : Nat} {r : List UInt8} (h : r.head? ≠ some 91) : elmsD (n + 1) r = some ([], r) := by
  unfold elmsD; rw [if_neg h]
theorem elmsD_no {n : Nat} {r : List UInt8} (h : r.head? = some 91) (h1 : elemD r.tail = none) : elmsD (n + 1) r = none := by
  unfold elmsD; rw [if_pos h, h1]
theorem elmsD_yes {n : Nat} {r t : List UInt8} {e : Elm} (h : r.head? = some 91) (h1 : elemD r.tail = some (e, t)) : elmsD (n + 1) r = (elmsD n t).map fun z => (e :: z.1, z.2) := by
  conv => lhs; unfold elmsD
  rw [if_pos h, h1]

/-! ### sizes -/
theorem prmsD_fit : ∀ (n : Nat) (l : List UInt8) (p : List Prm × List UInt8), prmsD n l = some p → p.1.length + p.2.length ≤ l.length ∧ ∀ x ∈ p.1, x.1.size ≤ l.length ∧ x.2.size ≤ l.length
  | 0, l, p, h => by cases h
  | n + 1, l, p, h => by
    unfold prmsD at h
    split at h
    · rename_i h1
      obtain ⟨e1, _⟩ := trim_cons h1
      have hl := congrArg List.length e1
      rw [List.length_cons] at hl
      split at h
      · split at h
        · rename_i q hq
          split at h
          · cases h
          · cases hz : prmsD n q.2 with
            | none => rw [hz] at h; cases h
            | some z =>
              rw [hz] at h
              cases h
              obtain ⟨i1, i2⟩ := prmsD_fit n q.2 z hz
              obtain ⟨t1, t2⟩ := takeV_le _ _ q (Nat.le_refl _) hq
              rw [List.length_drop] at t1 t2
              refine ⟨by simp only [List.length_cons]; omega, fun x hx => ?_⟩
              rcases List.mem_cons.1 hx with rfl | hx
              · refine ⟨?_, ?_⟩
                · rw [bytes_size, List.length_take]; omega
                · rw [bytes_size]; omega
              · have := i2 x hx
                omega
        · cases h
      · cases h
    · cases h; exact ⟨by simp, by simp⟩
theorem elemD_fit {q t : List UInt8} {e : Elm} (h : elemD q = some (e, t)) : e.1.size ≤ q.length ∧ e.2.length ≤ q.length ∧ ∀ x ∈ e.2, x.1.size ≤ q.length ∧ x.2.size ≤ q.length := by
  unfold elemD at h
  split at h
  · split at h
    · rename_i p hp
      split at h
      · cases h
        obtain ⟨i1, i2⟩ := prmsD_fit _ _ _ hp
        rw [List.length_drop] at i1 i2
        refine ⟨?_, ?_, fun x hx => by have := i2 x hx; omega⟩
        · rw [bytes_size, List.length_take]; omega
        · show p.1.length ≤ q.length; omega
      · cases h
    · cases h
  · cases h
theorem elmsD_fit : ∀ (n : Nat) (l r : List UInt8) (es : List Elm), elmsD n l = some (es, r) → es.length ≤ l.length ∧ ∀ e ∈ es, e.1.size ≤ l.length ∧ e.2.length ≤ l.length ∧ ∀ x ∈ e.2, x.1.size ≤ l.length ∧ x.2.size ≤ l.length
  | 0, l, r, es, h => by cases h
  | n + 1, l, r, es, h => by
    unfold elmsD at h
    split at h
    · rename_i h1
      obtain ⟨e1, _⟩ := trim_cons h1
      have hl := congrArg List.length e1
      rw [List.length_cons] at hl
      split at h
      · rename_i p hp
        cases hz : elmsD n p.2 with
        | none => rw [hz] at h; cases h
        | some z =>
          rw [hz] at h
          cases h
          obtain ⟨i1, i2⟩ := elmsD_fit n p.2 z.2 z.1 hz
          obtain ⟨a, _, ha⟩ := elemD_end (e := p.1) (t := p.2) hp
          have hla := congrArg List.length ha
          rw [List.length_append] at hla
          obtain ⟨j1, j2, j3⟩ := elemD_fit (e := p.1) (t := p.2) hp
          refine ⟨by simp only [List.length_cons]; omega, fun e he => ?_⟩
          rcases List.mem_cons.1 he with rfl | he
          · exact ⟨by omega, by omega, fun x hx => by have := j3 x hx; omega⟩
          · obtain ⟨k1, k2, k3⟩ := i2 e he
            exact ⟨by omega, by omega, fun x hx => by have := k3 x hx; omega⟩
      · cases h
    · cases h; exact ⟨by simp, by simp⟩
theorem elementsD_fit {l r : List UInt8} {es : List Elm} (h : elementsD l = some (es, r)) (hl : l.length ≤ 1073741824) : ElmsFit es := by
  unfold elementsD at h
  split at h
  · cases h; exact ⟨by simp, by simp⟩
  · split at h
    · obtain ⟨i1, i2⟩ := elmsD_fit _ _ _ _ h
      refine ⟨by omega, fun e he => ?_⟩
      obtain ⟨k1, k2, k3⟩ := i2 e he
      exact ⟨by omega, by omega, fun x hx => by have := k3 x hx; omega⟩
    · cases h

/-! ### what stands behind -/
theorem behind_nil : behindL [] = ([], true) := rfl
theorem behind_no {c : UInt8} {r : List UInt8} (h : c ≠ 32) : (behindL (c :: r)).2 = false := by
  unfold behindL
  rw [if_neg (by simp)]
  have : Lib.hasPrefix (c :: r) [32] = false := by rw [pre_cons]; simp [h]
  rw [this]
  rfl
theorem trim_32 (r : List UInt8) : Lib.trimPrefix (32 :: r) [32] = r ∧ Lib.hasPrefix (32 :: r) [32] = true := ⟨(trim_cons (l := 32 :: r) rfl).2, by rw [pre_cons]; rfl⟩
theorem behind_bom {r : List UInt8} (h : Lib.hasPrefix r [239, 187, 191] = true) : behindL (32 :: r) = (r.drop 3, true) := by
  obtain ⟨e1, e2⟩ := trim_32 r
  unfold behindL
  rw [if_neg (by simp), e1, e2, h]
  have : Lib.trimPrefix r [239, 187, 191] = r.drop 3 := by unfold Lib.trimPrefix; rw [if_pos h]; rfl
  rw [this]
  rfl
theorem behind_empty : (behindL [32]).2 = false := by decide
theorem behind_text {r : List UInt8} (h : Lib.hasPrefix r [239, 187, 191] = false) (h0 : r ≠ []) : behindL (32 :: r) = (r, true) := by
  obtain ⟨e1, e2⟩ := trim_32 r
  unfold behindL
  rw [if_neg (by simp), e1, e2, h]
  have : Lib.trimPrefix r [239, 187, 191] = r := by unfold Lib.trimPrefix; rw [if_neg (by rw [h]; decide)]
  rw [this]
  simp [h0]
theorem words_fit : ∀ (n : Nat) (r r' : List UInt8) (ws : List (List UInt8)), wordsN n r = some (ws, r') → ∀ x ∈ ws, x.length ≤ r.length
  | 0, r, r', ws, h => by cases h; intro x hx; cases hx
  | n + 1, r, r', [], h => by intro x hx; cases hx
  | n + 1, r, r', y :: ws, h => by
    obtain ⟨r1, h1, h2⟩ := words_rev h
    obtain ⟨p, rfl, _, _, rfl⟩ := told_rev h1
    intro x hx
    rcases List.mem_cons.1 hx with rfl | hx
    · split
      · simp
      · rw [List.length_append]; omega
    · have := words_fit n r1 r' ws h2 x hx
      rw [List.length_append, List.length_cons]
      omega
theorem behind_fit {l tx : List UInt8} {f : Bool} (h : behindL l = (tx, f)) : tx.length ≤ l.length := by
  have h1 := congrArg (fun x => x.1) h
  unfold behindL at h1
  split at h1
  · simp only at h1; rw [← h1]; simp
  · simp only at h1
    rw [← h1]
    exact Nat.le_trans (trim_le _ _) (trim_le _ _)

/-! ### how far a text is read -/
def S1 (l : List UInt8) : Prop := ∃ k r3, HeadD l k r3
def S2 (l : List UInt8) : Prop := ∃ k r3 td a r4, HeadD l k r3 ∧ DateD r3 td a r4
def S3 (l : List UInt8) : Prop := ∃ k r3 td a r4 ws r8, HeadD l k r3 ∧ DateD r3 td a r4 ∧ wordsN 4 r4 = some (ws, r8)
def S4 (l : List UInt8) : Prop := ∃ k r3 td a r4 ws r8 es r9, HeadD l k r3 ∧ DateD r3 td a r4 ∧ wordsN 4 r4 = some (ws, r8) ∧ elementsD r8 = some (es, r9)
def S5 (l : List UInt8) : Prop := ∃ k r3 td a r4 ws r8 es r9, HeadD l k r3 ∧ DateD r3 td a r4 ∧ wordsN 4 r4 = some (ws, r8) ∧ elementsD r8 = some (es, r9) ∧ (behindL r9).2 = true
def S6 (l : List UInt8) : Prop := ¬ NoD l
variable {l : List UInt8}
theorem s21 (h : S2 l) : S1 l := by obtain ⟨k, r3, td, a, r4, h1, _⟩ := h; exact ⟨k, r3, h1⟩
theorem s32 (h : S3 l) : S2 l := by obtain ⟨k, r3, td, a, r4, ws, r8, h1, h2, _⟩ := h; exact ⟨k, r3, td, a, r4, h1, h2⟩
theorem s43 (h : S4 l) : S3 l := by obtain ⟨k, r3, td, a, r4, ws, r8, es, r9, h1, h2, h3, _⟩ := h; exact ⟨k, r3, td, a, r4, ws, r8, h1, h2, h3⟩
theorem s54 (h : S5 l) : S4 l := by obtain ⟨k, r3, td, a, r4, ws, r8, es, r9, h1, h2, h3, h4, _⟩ := h; exact ⟨k, r3, td, a, r4, ws, r8, es, r9, h1, h2, h3, h4⟩
theorem s65 (h : S6 l) : S5 l := Classical.byContradiction fun hn => h fun gr fr at' td ho a p i tx es hx => by
  obtain ⟨k, r3, r4, r8, r9, hh, _, _, hD, hw, he, hb⟩ := dreads_iff.1 hx
  exact absurd ⟨k, r3, td, at', r4, _, r8, es, r9, hh, hD, hw, he, by rw [hb]⟩ hn
theorem nod6 (h : ¬ S6 l) : NoD l := Classical.byContradiction fun hn => h hn
theorem nod5 (h : ¬ S5 l) : NoD l := nod6 fun k => h (s65 k)
theorem nod4 (h : ¬ S4 l) : NoD l := nod5 fun k => h (s54 k)
theorem nod3 (h : ¬ S3 l) : NoD l := nod4 fun k => h (s43 k)
theorem nod2 (h : ¬ S2 l) : NoD l := nod3 fun k => h (s32 k)
theorem nod1 (h : ¬ S1 l) : NoD l := nod2 fun k => h (s21 k)
theorem ns1 (h : ∀ k r, ¬ HeadD l k r) : ¬ S1 l := fun ⟨k, r, hx⟩ => h k r hx
theorem ns2 {r3 : List UInt8} {k : Nat} (hh : HeadD l k r3) (h : ∀ td a r, ¬ DateD r3 td a r) : ¬ S2 l := fun ⟨k', r3', td, a, r4, h1, h2⟩ => by
  obtain ⟨rfl, rfl⟩ := head_one hh h1
  exact h _ _ _ h2
theorem ns3 {r3 r4 : List UInt8} {k : Nat} {td : Bool} {a0 : Int} (hh : HeadD l k r3) (hD : DateD r3 td a0 r4) (h : wordsN 4 r4 = none) : ¬ S3 l := fun ⟨k', r3', td', a', r4', ws, r8, h1, h2, h3⟩ => by
  obtain ⟨rfl, rfl⟩ := head_one hh h1
  obtain ⟨rfl, rfl, rfl⟩ := date_one hD h2
  rw [h] at h3; cases h3
theorem ns4 {r3 r4 r8 : List UInt8} {k : Nat} {td : Bool} {a0 : Int} {ws : List (List UInt8)} (hh : HeadD l k r3) (hD : DateD r3 td a0 r4) (hw : wordsN 4 r4 = some (ws, r8)) (h : elementsD r8 = none) : ¬ S4 l := fun ⟨k', r3', td', a', r4', ws', r8', es, r9, h1, h2, h3, h4⟩ => by
  obtain ⟨rfl, rfl⟩ := head_one hh h1
  obtain ⟨rfl, rfl, rfl⟩ := date_one hD h2
  rw [hw] at h3
  cases h3
  rw [h] at h4; cases h4
theorem ns5 {r3 r4 r8 r9 : List UInt8} {k : Nat} {td : Bool} {a0 : Int} {ws : List (List UInt8)} {es : List Elm} (hh : HeadD l k r3) (hD : DateD r3 td a0 r4) (hw : wordsN 4 r4 = some (ws, r8)) (he : elementsD r8 = some (es, r9)) (h : (behindL r9).2 = false) : ¬ S5 l := fun ⟨k', r3', td', a', r4', ws', r8', es', r9', h1, h2, h3, h4, h5⟩ => by
  obtain ⟨rfl, rfl⟩ := head_one hh h1
  obtain ⟨rfl, rfl, rfl⟩ := date_one hD h2
  rw [hw] at h3
  cases h3
  rw [he] at h4
  cases h4
  rw [h] at h5; cases h5
theorem ns6 (h : NoD l) : ¬ S6 l := fun k => k h
end Go.Proofs.YtmmghppjhmdikaaGreatDoor
