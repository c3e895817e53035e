/- The texts PrintLists, Get, ValText, ParseLists, SameBase, one behind the other. -/
import Derived.Test.YtnaijahhogndjaaGreatDoorB15
import Derived.Test.YtnaijahhogndjaaGreatDoorB4
import Derived.Test.YtnaijahhogndjaaGreatDoorB11
import Derived.Test.YtnaijahhogndjaaGreatDoorB6
import Derived.Test.YtnaijahhogndjaaGreatDoorB7
import Derived.Laws.StructEq
import Derived.BigQuiet
import Derived.Deep.QuietTactic
/- Printed texts, as lists: two right events have one text just if they are the same. -/
namespace Go.Proofs.YtnaijahhogndjaaGreatDoor
open Cal (clamp DateIs dateText nanosI rightB pad)

/-- Up to a sign of some, two texts are cut alike. -/
theorem span_inj (S : List UInt8) : ∀ (u u' r r' : List UInt8) (c c' : UInt8), (∀ x ∈ u, S.contains x = false) → (∀ x ∈ u', S.contains x = false) → S.contains c = true → S.contains c' = true → u ++ c :: r = u' ++ c' :: r' → u = u' ∧ c = c' ∧ r = r'
  | [], [], r, r', c, c', _, _, _, _, h => by cases h; exact ⟨rfl, rfl, rfl⟩
  | [], x :: u', r, r', c, c', _, h2, h3, _, h => by
    injection h with e _
    have := h2 x (by simp)
    rw [← e, h3] at this
    cases this
  | x :: u, [], r, r', c, c', h1, _, _, h4, h => by
    injection h with e _
    have := h1 x (by simp)
    rw [e, h4] at this
    cases this
  | x :: u, y :: u', r, r', c, c', h1, h2, h3, h4, h => by
    injection h with e h
    obtain ⟨e1, e2, e3⟩ := span_inj S u u' r r' c c' (fun z hz => h1 z (by simp [hz])) (fun z hz => h2 z (by simp [hz])) h3 h4 h
    exact ⟨by rw [e, e1], e2, e3⟩
theorem byte_ext {s t : ByteArray} (h : s.data.toList = t.data.toList) : s = t := by rw [← bytes_self s, ← bytes_self t, h]
theorem name_no4 {l : List UInt8} (h : nameB l = true) : ∀ x ∈ l, [61, 93, 34, 32].contains x = false := fun x hx => (name_bytes h x hx).1
/-! ### parameters and elements -/
theorem prms_inj : ∀ (ps qs : List Prm) (R R' : List UInt8), (∀ p ∈ ps, nameB p.1.data.toList = true) → (∀ p ∈ qs, nameB p.1.data.toList = true) → prmsT ps ++ 93 :: R = prmsT qs ++ 93 :: R' → ps = qs ∧ R = R'
  | [], [], R, R', _, _, h => by
    have h' : (93 : UInt8) :: R = 93 :: R' := h
    injection h' with _ e
    exact ⟨rfl, e⟩
  | [], q :: qs, R, R', _, _, h => by
    have e := prms_step (ps := q :: qs) (k := 0) rfl R'
    rw [List.drop_zero] at e
    rw [e] at h
    injection h with e1 _
    exact absurd e1 (by decide)
  | p :: ps, [], R, R', _, _, h => by
    have e := prms_step (ps := p :: ps) (k := 0) rfl R
    rw [List.drop_zero] at e
    rw [e] at h
    injection h with e1 _
    exact absurd e1 (by decide)
  | p :: ps, q :: qs, R, R', hp, hq, h => by
    have e := prms_step (ps := p :: ps) (k := 0) rfl R
    have e' := prms_step (ps := q :: qs) (k := 0) rfl R'
    rw [List.drop_zero] at e e'
    rw [e, e'] at h
    injection h with _ h
    obtain ⟨n1, _, n3⟩ := span_inj [61, 93, 34, 32] _ _ _ _ 61 61 (name_no4 (hp p (by simp))) (name_no4 (hq q (by simp))) (by decide) (by decide) h
    injection n3 with _ n4
    have t1 := takeV_value (prmsT ((p :: ps).drop (0 + 1)) ++ 93 :: R) p.2.data.toList
    rw [n4, takeV_value] at t1
    have t2 := Option.some.inj t1
    have v1 := congrArg Prod.fst t2
    have v2 : prmsT qs ++ 93 :: R' = prmsT ps ++ 93 :: R := congrArg Prod.snd t2
    obtain ⟨i1, i2⟩ := prms_inj ps qs R R' (fun x hx => hp x (by simp [hx])) (fun x hx => hq x (by simp [hx])) v2.symm
    exact ⟨by rw [i1, Prod.ext (byte_ext n1) (byte_ext v1.symm)], i2⟩
def elmName (e : Elm) : Prop := nameB e.1.data.toList = true ∧ ∀ p ∈ e.2, nameB p.1.data.toList = true
theorem elm_inj {e e' : Elm} {R R' : List UInt8} (h1 : elmName e) (h2 : elmName e') (h : elmT e ++ R = elmT e' ++ R') : e = e' ∧ R = R' := by
  have a1 : elmT e ++ R = 91 :: (e.1.data.toList ++ (prmsT e.2 ++ 93 :: R)) := by simp [elmT]
  have a2 : elmT e' ++ R' = 91 :: (e'.1.data.toList ++ (prmsT e'.2 ++ 93 :: R')) := by simp [elmT]
  rw [a1, a2] at h
  injection h with _ h
  obtain ⟨c, r, e1, hc⟩ := prms_head e.2 R
  obtain ⟨c', r', e2, hc'⟩ := prms_head e'.2 R'
  rw [e1, e2] at h
  obtain ⟨n1, n2, n3⟩ := span_inj [61, 93, 34, 32] _ _ _ _ c c' (name_no4 h1.1) (name_no4 h2.1) hc hc' h
  rw [← n2, ← n3, ← e1] at e2
  obtain ⟨p1, p2⟩ := prms_inj e.2 e'.2 R R' h1.2 h2.2 e2.symm
  exact ⟨Prod.ext (byte_ext n1) p1, p2⟩
theorem behind_head (t : List UInt8) : behindT t = [] ∨ ∃ r, behindT t = 32 :: r := by
  unfold behindT
  split
  · exact .inl rfl
  · exact .inr ⟨_, rfl⟩
theorem behind_inj {t t' : List UInt8} (h : behindT t = behindT t') : t = t' := by
  unfold behindT at h
  split at h <;> split at h
  · rename_i a b; rw [a, b]
  · cases h
  · cases h
  · injection h with _ h; injection h with _ h; injection h with _ h; injection h
theorem elms_inj : ∀ (es fs : List Elm) (t t' : List UInt8), (∀ e ∈ es, elmName e) → (∀ e ∈ fs, elmName e) → elmsT es ++ behindT t = elmsT fs ++ behindT t' → es = fs ∧ behindT t = behindT t'
  | [], [], _, _, _, _, h => ⟨rfl, h⟩
  | [], f :: fs, t, t', _, _, h => by
    exfalso
    have e2 : elmsT (f :: fs) = elmT f ++ elmsT fs := rfl
    have h' : behindT t = 91 :: (f.1.data.toList ++ (prmsT f.2 ++ [93]) ++ elmsT fs ++ behindT t') := h
    rcases behind_head t with hb | ⟨r, hb⟩
    · rw [hb] at h'; cases h'
    · rw [hb] at h'; injection h' with e; exact absurd e (by decide)
  | f :: fs, [], t, t', _, _, h => by
    exfalso
    have h' : 91 :: (f.1.data.toList ++ (prmsT f.2 ++ [93]) ++ elmsT fs ++ behindT t) = behindT t' := h
    rcases behind_head t' with hb | ⟨r, hb⟩
    · rw [hb] at h'; cases h'
    · rw [hb] at h'; injection h' with e; exact absurd e (by decide)
  | e :: es, f :: fs, t, t', h1, h2, h => by
    have a1 : elmsT (e :: es) ++ behindT t = elmT e ++ (elmsT es ++ behindT t) := by
      have : elmsT (e :: es) = elmT e ++ elmsT es := rfl
      rw [this, List.append_assoc]
    have a2 : elmsT (f :: fs) ++ behindT t' = elmT f ++ (elmsT fs ++ behindT t') := by
      have : elmsT (f :: fs) = elmT f ++ elmsT fs := rfl
      rw [this, List.append_assoc]
    rw [a1, a2] at h
    obtain ⟨i1, i2⟩ := elm_inj (h1 e (by simp)) (h2 f (by simp)) h
    obtain ⟨j1, j2⟩ := elms_inj es fs t t' (fun x hx => h1 x (by simp [hx])) (fun x hx => h2 x (by simp [hx])) i2
    exact ⟨by rw [i1, j1], j2⟩
theorem data_names {da : List Elm} (h : dataB da = true) : ∀ e ∈ da, elmName e := by
  intro e he
  unfold dataB at h
  rw [Bool.and_eq_true, List.all_eq_true] at h
  have h1 := h.1 e he
  unfold okE at h1
  rw [Bool.and_eq_true] at h1
  refine ⟨h1.1, fun p hp => ?_⟩
  have h2 : e.2.any wrongB = false := by simpa using h1.2
  rw [List.any_eq_false] at h2
  have h3 := h2 p hp
  unfold wrongB at h3
  simp at h3
  exact h3.1
theorem tail_inj {da db : List Elm} {t t' : List UInt8} (h1 : dataB da = true) (h2 : dataB db = true) (h : (if da = [] then [45] else elmsT da) ++ behindT t = (if db = [] then [45] else elmsT db) ++ behindT t') : da = db ∧ t = t' := by
  by_cases ha : da = []
  · by_cases hb : db = []
    · rw [if_pos ha, if_pos hb] at h
      injection h with _ h
      exact ⟨by rw [ha, hb], behind_inj h⟩
    · exfalso
      rw [if_pos ha, if_neg hb] at h
      cases db with
      | nil => exact hb rfl
      | cons f fs =>
        have h' : (45 : UInt8) :: behindT t = 91 :: (f.1.data.toList ++ (prmsT f.2 ++ [93]) ++ elmsT fs ++ behindT t') := h
        injection h' with e
        exact absurd e (by decide)
  · by_cases hb : db = []
    · exfalso
      rw [if_neg ha, if_pos hb] at h
      cases da with
      | nil => exact ha rfl
      | cons f fs =>
        have h' : 91 :: (f.1.data.toList ++ (prmsT f.2 ++ [93]) ++ elmsT fs ++ behindT t) = (45 : UInt8) :: behindT t' := h
        injection h' with e
        exact absurd e (by decide)
    · rw [if_neg ha, if_neg hb] at h
      obtain ⟨i1, i2⟩ := elms_inj da db t t' (data_names h1) (data_names h2) h
      exact ⟨i1, behind_inj i2⟩
/-! ### numbers, moments, words -/
theorem pad_inj {k n n' : Nat} (h1 : n < 10 ^ k) (h2 : n' < 10 ^ k) (h : pad k n = pad k n') : n = n' := by
  have e1 := Cal.numOf_pad k n h1
  have e2 := Cal.numOf_pad k n' h2
  rw [h, e2] at e1
  omega
theorem dec_inj {n n' : Nat} (h1 : n < 1000) (h2 : n' < 1000) (h : Lib.decDigits n = Lib.decDigits n') : n = n' := by
  have e1 := (Cal.pad_dec 3 n (by decide) h1).2
  have e2 := (Cal.pad_dec 3 n' (by decide) h2).2
  rw [h, e2] at e1
  exact pad_inj h1 h2 e1.symm
theorem dec_digs {n : Nat} (h1 : n < 1000) : ∀ x ∈ Lib.decDigits n, [62].contains x = false := by
  intro x hx
  have e1 := (Cal.pad_dec 3 n (by decide) h1).2
  have hd := Cal.pad_digs 3 n x (by rw [← e1]; simp [hx])
  have hd' := of_decide_eq_true hd
  have : x ≠ 62 := fun h => by rw [h] at hd'; revert hd'; decide
  simpa using this
theorem pad_no32 {k n : Nat} : ∀ x ∈ pad k n, x ≠ 32 := by
  intro x hx h
  have hd := of_decide_eq_true (Cal.pad_digs k n x hx)
  rw [h] at hd
  revert hd
  decide
theorem date_no32 (y m d h i s n : Int) : ∀ x ∈ dateText y m d h i s n 0, x ≠ 32 := by
  intro x hx
  unfold dateText Cal.nanoText Cal.zoneText at hx
  simp only [List.mem_append, List.mem_cons, List.not_mem_nil, or_false, if_true] at hx
  rcases hx with h | rfl | h | rfl | h | rfl | h | rfl | h | rfl | h | h | h
  · exact pad_no32 x h
  · decide
  · exact pad_no32 x h
  · decide
  · exact pad_no32 x h
  · decide
  · exact pad_no32 x h
  · decide
  · exact pad_no32 x h
  · decide
  · exact pad_no32 x h
  · split at h
    · cases h
    · rcases List.mem_append.1 h with h | h
      · have : x = 46 := by simpa using h
        rw [this]; decide
      · exact pad_no32 x h
  · rw [h]; decide
theorem time_no32 {td : Bool} {a : Int} {T : List UInt8} (h : TimeIs td a T) : ∀ x ∈ T, [32].contains x = false := by
  intro x hx
  rcases h with ⟨_, rfl⟩ | ⟨_, y, m, d, hh, i, s, k, _, rfl⟩
  · have : x = 45 := by simpa using hx
    rw [this]; decide
  · have := date_no32 y m d hh i s k x hx
    simpa using this
theorem date_inj {y m d h i s n y' m' d' h' i' s' n' : Int} (r : rightB y m d h i s n 0 = true) (r' : rightB y' m' d' h' i' s' n' 0 = true) (e : dateText y m d h i s n 0 = dateText y' m' d' h' i' s' n' 0) :
    y = y' ∧ m = m' ∧ d = d' ∧ h = h' ∧ i = i' ∧ s = s' ∧ n = n' := by
  obtain ⟨⟨y1, y2⟩, ⟨d1, d2⟩, ⟨h1, h2⟩, ⟨i1, i2⟩, ⟨s1, s2⟩, ⟨n1, n2⟩, n3, _⟩ := (Cal.right_iff ..).1 r
  obtain ⟨⟨y1', y2'⟩, ⟨d1', d2'⟩, ⟨h1', h2'⟩, ⟨i1', i2'⟩, ⟨s1', s2'⟩, ⟨n1', n2'⟩, n3', _⟩ := (Cal.right_iff ..).1 r'
  obtain ⟨m1, m2⟩ := Cal.month_of_day d1 d2
  obtain ⟨m1', m2'⟩ := Cal.month_of_day d1' d2'
  have d3 : d ≤ 31 := by have := (Cal.lenI_bd y m).2; omega
  have d3' : d' ≤ 31 := by have := (Cal.lenI_bd y' m').2; omega
  unfold dateText at e
  obtain ⟨a1, e⟩ := List.append_inj e (by rw [Cal.pad_length, Cal.pad_length])
  obtain ⟨_, e⟩ := List.append_inj e rfl
  obtain ⟨a2, e⟩ := List.append_inj e (by rw [Cal.pad_length, Cal.pad_length])
  obtain ⟨_, e⟩ := List.append_inj e rfl
  obtain ⟨a3, e⟩ := List.append_inj e (by rw [Cal.pad_length, Cal.pad_length])
  obtain ⟨_, e⟩ := List.append_inj e rfl
  obtain ⟨a4, e⟩ := List.append_inj e (by rw [Cal.pad_length, Cal.pad_length])
  obtain ⟨_, e⟩ := List.append_inj e rfl
  obtain ⟨a5, e⟩ := List.append_inj e (by rw [Cal.pad_length, Cal.pad_length])
  obtain ⟨_, e⟩ := List.append_inj e rfl
  obtain ⟨a6, e⟩ := List.append_inj e (by rw [Cal.pad_length, Cal.pad_length])
  have en : Cal.nanoText n = Cal.nanoText n' := List.append_cancel_right e
  have b1 := pad_inj (k := 4) (by omega) (by omega) a1
  have b2 := pad_inj (k := 2) (by omega) (by omega) a2
  have b3 := pad_inj (k := 2) (by omega) (by omega) a3
  have b4 := pad_inj (k := 2) (by omega) (by omega) a4
  have b5 := pad_inj (k := 2) (by omega) (by omega) a5
  have b6 := pad_inj (k := 2) (by omega) (by omega) a6
  have b7 : n = n' := by
    unfold Cal.nanoText at en
    split at en <;> split at en
    · omega
    · cases en
    · cases en
    · have e2 := List.append_cancel_left en
      have := pad_inj (k := 6) (by omega) (by omega) e2
      omega
  exact ⟨by omega, by omega, by omega, by omega, by omega, by omega, b7⟩
theorem time_inj {td td' : Bool} {a a' : Int} {T : List UInt8} (h : TimeIs td a T) (h' : TimeIs td' a' T) (r : timeB td a = true) (r' : timeB td' a' = true) : td = td' ∧ a = a' := by
  have hlen : ∀ y m d hh i s k, dateText y m d hh i s k 0 ≠ [45] := fun y m d hh i s k e => by
    have := congrArg List.length e
    unfold dateText at this
    simp [Cal.pad_length] at this
    omega
  rcases h with ⟨rfl, rfl⟩ | ⟨rfl, y, m, d, hh, i, s, k, hD, rfl⟩
  · rcases h' with ⟨rfl, _⟩ | ⟨rfl, y, m, d, hh, i, s, k, _, e⟩
    · have e1 : a = 0 := of_decide_eq_true r
      have e2 : a' = 0 := of_decide_eq_true r'
      exact ⟨rfl, by rw [e1, e2]⟩
    · exact (hlen _ _ _ _ _ _ _ e.symm).elim
  · rcases h' with ⟨rfl, e⟩ | ⟨rfl, y', m', d', hh', i', s', k', hD', e⟩
    · exact (hlen _ _ _ _ _ _ _ e).elim
    · obtain ⟨r1, n1⟩ := hD
      obtain ⟨r2, n2⟩ := hD'
      obtain ⟨rfl, rfl, rfl, rfl, rfl, rfl, rfl⟩ := date_inj r1 r2 e
      have e1 : clamp a - clamp a % 1000 = a := of_decide_eq_true r
      have e2 : clamp a' - clamp a' % 1000 = a' := of_decide_eq_true r'
      exact ⟨rfl, by rw [← e1, ← e2, ← n1, ← n2]⟩
theorem or_no32 {s : ByteArray} {m : Int} (h : wordB s.data.toList m = true) : ∀ x ∈ (orB s).data.toList, [32].contains x = false := by
  intro x hx
  unfold orB at hx
  split at hx
  · have : x = 45 := by simpa [bytes] using hx
    rw [this]; decide
  · rename_i h0
    unfold wordB at h
    rw [Bool.or_eq_true, Bool.and_eq_true] at h
    rcases h with h | ⟨_, h⟩
    · exfalso
      have e := of_decide_eq_true h
      rw [e] at hx
      cases hx
    · unfold plainB at h
      rw [Bool.and_eq_true, List.all_eq_true] at h
      have h2 := of_decide_eq_true (h.2 x hx)
      have : x ≠ 32 := fun hh => by rw [hh] at h2; revert h2; decide
      simpa using this
theorem or_inj {s t : ByteArray} {m : Int} (h1 : wordB s.data.toList m = true) (h2 : wordB t.data.toList m = true) (h : (orB s).data.toList = (orB t).data.toList) : s = t := by
  have key : ∀ {u : ByteArray}, wordB u.data.toList m = true → u.data.toList ≠ [45] := fun {u} hu he => by
    unfold wordB at hu
    rw [he] at hu
    simp at hu
  unfold orB at h
  split at h <;> split at h
  · rename_i a b
    apply byte_ext
    have e1 : s.data.toList = [] := List.eq_nil_of_length_eq_zero (by rw [list_size]; exact a)
    have e2 : t.data.toList = [] := List.eq_nil_of_length_eq_zero (by rw [list_size]; exact b)
    rw [e1, e2]
  · exact absurd h.symm (key h2)
  · exact absurd h (key h1)
  · exact byte_ext h
/-- Two right events whose texts are the same are the same. -/
theorem print_inj {g f a g' f' a' : Int} {t t' : Bool} {ho ap pr id tx ho' ap' pr' id' tx' : ByteArray} {da db : List Elm} {T T' : List UInt8}
    (r : rightE ⟨g, f, t, a, ho, ap, pr, id, da, tx⟩ = 0) (r' : rightE ⟨g', f', t', a', ho', ap', pr', id', db, tx'⟩ = 0) (hT : TimeIs t a T) (hT' : TimeIs t' a' T')
    (h : printT g f T ho ap pr id da tx = printT g' f' T' ho' ap' pr' id' db tx') : (⟨g, f, t, a, ho, ap, pr, id, da, tx⟩ : Ev) = ⟨g', f', t', a', ho', ap', pr', id', db, tx'⟩ := by
  obtain ⟨⟨g1, g2⟩, ⟨f1, f2⟩, tm, ⟨w1, w2, w3, w4⟩, dd, _, _, _⟩ := right_parts r
  obtain ⟨⟨g1', g2'⟩, ⟨f1', f2'⟩, tm', ⟨w1', w2', w3', w4'⟩, dd', _, _, _⟩ := right_parts r'
  have flat : ∀ (g f : Int) (T : List UInt8) (ho ap pr id : ByteArray) (da : List Elm) (tx : ByteArray), printT g f T ho ap pr id da tx = 60 :: (Lib.decDigits (8 * f + g).toNat ++ 62 :: 49 :: 32 :: (T ++ 32 :: ((orB ho).data.toList ++ 32 :: ((orB ap).data.toList ++ 32 :: ((orB pr).data.toList ++ 32 :: ((orB id).data.toList ++ 32 :: ((if da = [] then [45] else elmsT da) ++ behindT tx.data.toList))))))) := by
    intro g f T ho ap pr id da tx
    simp [printT, flatL, bytes]
  rw [flat, flat] at h
  injection h with _ h
  obtain ⟨c1, _, h⟩ := span_inj [62] _ _ _ _ 62 62 (dec_digs (by omega)) (dec_digs (by omega)) (by decide) (by decide) h
  injection h with _ h
  injection h with _ h
  obtain ⟨c2, _, h⟩ := span_inj [32] _ _ _ _ 32 32 (time_no32 hT) (time_no32 hT') (by decide) (by decide) h
  obtain ⟨c3, _, h⟩ := span_inj [32] _ _ _ _ 32 32 (or_no32 w1) (or_no32 w1') (by decide) (by decide) h
  obtain ⟨c4, _, h⟩ := span_inj [32] _ _ _ _ 32 32 (or_no32 w2) (or_no32 w2') (by decide) (by decide) h
  obtain ⟨c5, _, h⟩ := span_inj [32] _ _ _ _ 32 32 (or_no32 w3) (or_no32 w3') (by decide) (by decide) h
  obtain ⟨c6, _, h⟩ := span_inj [32] _ _ _ _ 32 32 (or_no32 w4) (or_no32 w4') (by decide) (by decide) h
  obtain ⟨rfl, c7⟩ := tail_inj dd dd' h
  subst c2
  obtain ⟨rfl, rfl⟩ := time_inj hT hT' tm tm'
  have n := dec_inj (by omega) (by omega) c1
  obtain rfl : g = g' := by omega
  obtain rfl : f = f' := by omega
  obtain rfl := or_inj w1 w1' c3
  obtain rfl := or_inj w2 w2' c4
  obtain rfl := or_inj w3 w3' c5
  obtain rfl := or_inj w4 w4' c6
  obtain rfl := byte_ext c7
  rfl
end Go.Proofs.YtnaijahhogndjaaGreatDoor
/- What sysl.Get answers: the value of the first parameter of that name of the first element of that Id. Conditions: sizes. -/
namespace Go.Proofs.YtnaijahhogndjaaGreatDoor
open Go.ChangeShapes Go.WideShapes Go.ChangeAt Go.RowKit

def getL (es : List Elm) (id nm : ByteArray) : ByteArray × Bool :=
  match es[es.findIdx (isIdB id)]? with
  | none => (⟨#[]⟩, false)
  | some x => match x.2[x.2.findIdx (isNmB nm)]? with
    | none => (⟨#[]⟩, false)
    | some p => (p.2, true)
theorem fstI_miss {α : Type} {p : α → Bool} {l : List α} (h : l[l.findIdx p]? = none) : fstI p l = -1 := by
  unfold fstI
  rw [List.getElem?_eq_none_iff] at h
  rw [if_neg (by omega)]
theorem fstI_hit {α : Type} {p : α → Bool} {l : List α} {x : α} (h : l[l.findIdx p]? = some x) : fstI p l = (l.findIdx p : Int) ∧ l.findIdx p < l.length := by
  obtain ⟨h1, _⟩ := List.getElem?_eq_some_iff.1 h
  unfold fstI
  exact ⟨if_pos h1, h1⟩
set_option maxHeartbeats 2000000 in
set_option maxRecDepth 100000 in
theorem get_any {g f a : Int} {t : Bool} {ho ap pr eid tx : ByteArray} (es : List Elm) (la : Option Addr) (lc : Nat) (id nm : ByteArray) (w : World) (hE : ElmsAt w (.slice la es.length lc) es) (hfit : ElmsFit es) :
    Calls Tryz.prog 13 #[.agg #[.int .i64 g, .int .i64 f, .bool t, .int .i64 a, .string ho, .string ap, .string pr, .string eid, .slice la es.length lc, .string tx], .string id, .string nm] w
      fun e w' => e = .returned (.tuple #[.string (getL es id nm).1, .bool (getL es id nm).2]) ∧ Below w.heap.size w w' := by
  have hlen : es.length ≤ 17592186044416 := hfit.1
  have hfe := hfit.2
  obtain ⟨W, hW⟩ : ∃ W, (((w.alloc (.cells #[.int .i64 g, .int .i64 f, .bool t, .int .i64 a, .string ho, .string ap, .string pr, .string eid, .slice la es.length lc, .string tx] 24)).alloc (.cells #[.string id] 9)).alloc (.cells #[.string nm] 9)) = W := ⟨_, rfl⟩
  have hB : Below w.heap.size w W := by rw [← hW]; exact (((Below.refl _ _).alloc (Nat.le_refl _) _).alloc (by simp) _).alloc (by simp <;> omega) _
  have cE : W.cell? ⟨w.heap.size, 8, none⟩ = some (.slice la es.length lc) := by rw [← hW]; simp [go_sem]
  have cI : W.cell? ⟨w.heap.size + 1, 0, none⟩ = some (.string id) := by rw [← hW]; simp [go_sem]
  have cN : W.cell? ⟨w.heap.size + 1 + 1, 0, none⟩ = some (.string nm) := by rw [← hW]; simp [go_sem]
  have zW : w.heap.size + 1 + 1 < W.heap.size := by rw [← hW]; simp <;> omega
  have HI := Lib.hid (idx_id id (w.heap.size + 1) es (.slice la es.length lc) W (hE.below hB) hlen (by omega) cI)
  have hEW := hE.below hB
  cases hx : es[es.findIdx (isIdB id)]? with
  | none =>
    have e1 : getL es id nm = (⟨#[]⟩, false) := by unfold getL; rw [hx]
    rw [e1]
    rw [fstI_miss hx] at HI
    subst hW
    clear hE hEW hfit hfe hx e1 cE cI cN
    go_enter Tryz.func13, Tryz.ntmps13
    go_wp2_with fail
    refine HI.out.mono ?_
    rintro r w2 ⟨rfl, hb2⟩
    have B2 := hB.trans (hb2.mono hB.size)
    go_wp2
    go_ret2
    exact ⟨rfl, B2⟩
  | some x =>
    obtain ⟨q1, q2⟩ := fstI_hit hx
    rw [q1] at HI
    obtain ⟨k, hk⟩ : ∃ k, es.findIdx (isIdB id) = k := ⟨_, rfl⟩
    rw [hk] at hx HI q2
    obtain ⟨la', lc', e0, hm⟩ := hEW
    cases e0
    obtain ⟨b, o, rfl, hlt, hc⟩ := hm (by omega)
    obtain ⟨lv, c1, c2, hps⟩ := hc k x hx
    have hxf := hfe x (List.mem_of_getElem? hx)
    obtain ⟨sa, sc, hlv⟩ : ∃ sa sc, lv = .slice sa x.2.length sc := by obtain ⟨sa, sc, h, _⟩ := hps; exact ⟨_, _, h⟩
    subst hlv
    have hkk : o + k * 2 = o + 2 * k := by omega
    have hcast : (k : Int) < (es.length : Int) := by omega
    have hG : getL es id nm = match x.2[x.2.findIdx (isNmB nm)]? with
      | none => (⟨#[]⟩, false)
      | some p => (p.2, true) := by unfold getL; rw [hk, hx]
    have hEs : ∀ V, Below W.heap.size W V → V.cell? ⟨b, o + 2 * k + 1, none⟩ = some (.slice sa x.2.length sc) := fun V hV => (hV.cell (p := ⟨b, _, none⟩) hlt).trans c2
    have HN := Lib.hid (fun V (hV : Below W.heap.size W V) => idx_name nm (w.heap.size + 1 + 1) x.2 (.slice sa x.2.length sc) V (hps.below hV) hxf.2.1 (Nat.lt_of_lt_of_le zW hV.size) ((hV.cell (p := ⟨_, 0, none⟩) zW).trans cN))
    have HE8 := Lib.hid (fun V (hV : Below W.heap.size W V) => (hV.cell (p := ⟨w.heap.size, 8, none⟩) (show w.heap.size < W.heap.size by omega)).trans cE)
    have HEs := Lib.hid hEs
    clear hEs hc hm hE c1 c2 hfe hfit q1
    cases hy : x.2[x.2.findIdx (isNmB nm)]? with
    | none =>
      rw [hy] at hG
      simp only at hG
      rw [hG]
      rw [fstI_miss hy] at HN
      subst hW
      clear cE cI cN hy hG hx hps hxf
      go_enter Tryz.func13, Tryz.ntmps13
      go_wp2_with fail
      refine HI.out.mono ?_
      rintro r w2 ⟨rfl, hb2⟩
      have B2 := hB.trans (hb2.mono hB.size)
      have s1 := HE8.out _ hb2
      have s2 := HEs.out _ hb2
      have HN2 := Lib.hid (HN.out _ hb2)
      clear hb2
      go_wp2_with fail
      refine HN2.out.mono ?_
      rintro r w3 ⟨rfl, hb3⟩
      have B3 := B2.trans (hb3.mono B2.size)
      go_wp2
      go_ret2
      exact ⟨rfl, B3⟩
    | some p =>
      rw [hy] at hG
      simp only at hG
      rw [hG]
      obtain ⟨r1, r2⟩ := fstI_hit hy
      rw [r1] at HN
      obtain ⟨j, hj⟩ : ∃ j, x.2.findIdx (isNmB nm) = j := ⟨_, rfl⟩
      rw [hj] at hy HN r2
      obtain ⟨sa', sc', e0, hm⟩ := hps
      cases e0
      obtain ⟨b2, o2, rfl, hlt2, hc2⟩ := hm (by omega)
      obtain ⟨_, c3⟩ := hc2 j p hy
      have HP := Lib.hid (fun V (hV : Below W.heap.size W V) => (hV.cell (p := ⟨b2, o2 + 2 * j + 1, none⟩) hlt2).trans c3)
      have hjj : o2 + j * 2 = o2 + 2 * j := by omega
      have hcast2 : (j : Int) < (x.2.length : Int) := by omega
      subst hW
      clear cE cI cN hy hG hx hxf hm hc2 c3 r1
      go_enter Tryz.func13, Tryz.ntmps13
      go_wp2_with fail
      refine HI.out.mono ?_
      rintro r w2 ⟨rfl, hb2⟩
      have B2 := hB.trans (hb2.mono hB.size)
      have s1 := HE8.out _ hb2
      have s2 := HEs.out _ hb2
      have HN2 := Lib.hid (HN.out _ hb2)
      go_wp2_with fail
      refine HN2.out.mono ?_
      rintro r w3 ⟨rfl, hb3⟩
      have B3 := B2.trans (hb3.mono B2.size)
      have s3 := HP.out _ (hb2.trans (hb3.mono hb2.size))
      clear hb2 hb3 s1 s2
      go_wp2
      go_ret2
      exact ⟨rfl, B3⟩
end Go.Proofs.YtnaijahhogndjaaGreatDoor
/- What sysl.Parse answers of the text of an event that has nothing but one element with one parameter: the event, if its value is valid; else nothing. -/
namespace Go.Proofs.YtnaijahhogndjaaGreatDoor
open Go.ChangeShapes Go.WideShapes Go.ChangeAt Go.RowKit

theorem cut_here (c : UInt8) (r : List UInt8) : Lib.cut (c :: r) [c] = ([], r, true) := by
  have h : Lib.index (c :: r) [c] = 0 := by unfold Lib.index; simp [List.isPrefixOf]
  unfold Lib.cut
  rw [h, if_pos (by decide)]
  rfl
theorem cut_next (x c : UInt8) (r p t : List UInt8) (hx : x ≠ c) (h : Lib.cut r [c] = (p, t, true)) : Lib.cut (x :: r) [c] = (x :: p, t, true) := by
  unfold Lib.cut at h
  by_cases hi : 0 ≤ Lib.index r [c]
  · rw [if_pos hi] at h
    have e : Lib.index (x :: r) [c] = Lib.index r [c] + 1 := by
      rw [Lib.index]
      simp [List.isPrefixOf, Ne.symm hx]
      omega
    obtain ⟨h1, h2⟩ := Prod.mk.inj h
    obtain ⟨h2, _⟩ := Prod.mk.inj h2
    have en : (Lib.index r [c] + 1).toNat = (Lib.index r [c]).toNat + 1 := by omega
    unfold Lib.cut
    rw [e, if_pos (by omega), en, ← h1, ← h2]
    simp
  · rw [if_neg hi] at h
    simp at h
theorem until_here (c : UInt8) (r : List UInt8) : untilL [c] (c :: r, true) = ([], r, true) := by
  unfold untilL; rw [cut_here]; rfl
theorem until_one (x c : UInt8) (r : List UInt8) (hx : x ≠ c) : untilL [c] (x :: c :: r, true) = ([x], r, true) := by
  unfold untilL; rw [cut_next x c _ [] r hx (cut_here c r)]; rfl
theorem told_none (r : List UInt8) : toldL (45 :: 32 :: r, true) = ([], r, true) := by
  unfold toldL; rw [until_one 45 32 r (by decide)]; rfl
/-- The one element: its Id is i, its one parameter's name n. -/
abbrev oneE (v : ByteArray) : List Elm := [(bytes [105], [(bytes [110], v)])]
/-- The text in which a value's text stands. -/
def valT (v : ByteArray) : List UInt8 := 60 :: 48 :: 62 :: 49 :: 32 :: 45 :: 32 :: 45 :: 32 :: 45 :: 32 :: 45 :: 32 :: 45 :: 32 :: (elmsT (oneE v) ++ [])
theorem valT_eq (v : ByteArray) : valT v = [60, 48, 62, 49, 32, 45, 32, 45, 32, 45, 32, 45, 32, 45, 32, 91, 105, 32, 110, 61, 34] ++ valueL v.data.toList ++ [34, 93] := by
  simp [valT, elmsT, elmT, prmsT, prmT, bytes]
theorem valT_length (v : ByteArray) : (valT v).length = (valueL v.data.toList).length + 23 := by
  rw [valT_eq]; simp
theorem one_fits (v : ByteArray) (hv : v.size ≤ 1048576) : ElmsFit (oneE v) := by
  refine ⟨show (1 : Nat) ≤ 17592186044416 by decide, fun e he => ?_⟩
  obtain rfl : e = _ := by simpa using he
  refine ⟨show (1 : Nat) ≤ 140737488355328 by decide, show (1 : Nat) ≤ 17592186044416 by decide, fun p hp => ?_⟩
  obtain rfl : p = _ := by simpa using hp
  exact ⟨show (1 : Nat) ≤ 140737488355328 by decide, by simp only; omega⟩
theorem one_good (v : ByteArray) : ∀ e ∈ oneE v, elmGood e := by
  intro e he
  obtain rfl : e = _ := by simpa using he
  refine ⟨show nameB (bytes [105]).data.toList = true by decide, fun p hp => ?_, show (1 : Nat) ≤ 64 by decide⟩
  obtain rfl : p = _ := by simpa using hp
  show nameB (bytes [110]).data.toList = true
  decide
theorem one_right (v : ByteArray) : rightE ⟨0, 0, false, 0, bytes [], bytes [], bytes [], bytes [], oneE v, bytes []⟩ = if Lib.validD v.data.toList = true then 0 else 3 := by
  have hw : wordsB ⟨0, 0, false, 0, bytes [], bytes [], bytes [], bytes [], oneE v, bytes []⟩ = true := rfl
  have hd : dataB (oneE v) = Lib.validD v.data.toList := by
    have n1 : nameB (bytes [105]).data.toList = true := by decide
    have n2 : nameB (bytes [110]).data.toList = true := by decide
    have hp : ([((bytes [110], v) : Prm)].any wrongB) = !(Lib.validD v.data.toList) := by
      show (wrongB (bytes [110], v) || false) = _
      unfold wrongB
      rw [n2]
      simp
    unfold dataB
    show ((okE (bytes [105], [(bytes [110], v)]) && true) && _) = _
    unfold okE
    simp only [n1, hp]
    simp
  have hv0 : Lib.validD (bytes []).data.toList = true := rfl
  have ht : timeB false 0 = true := by decide
  unfold rightE
  rw [if_neg (by intro h; exact h ⟨⟨Int.le_refl 0, show (0 : Int) ≤ 7 by decide⟩, ⟨Int.le_refl 0, show (0 : Int) ≤ 23 by decide⟩, ht⟩)]
  simp only [hw, hd, hv0]
  cases hc : Lib.validD v.data.toList with
  | true => rfl
  | false => rfl
theorem one_get (v : ByteArray) : getL (oneE v) (bytes [105]) (bytes [110]) = (v, true) := by
  have h1 : isIdB (bytes [105]) (bytes [105], [(bytes [110], v)]) = true := decide_eq_true rfl
  have h2 : isNmB (bytes [110]) (bytes [110], v) = true := decide_eq_true rfl
  simp [getL, oneE, List.findIdx_cons, h1, h2]
section
variable (v : ByteArray) (w : World) (hS : Std w) (hm : Max w) (hv : v.size ≤ 1048576)
include hv
theorem val_len : (valT v).length ≤ 16777216 := by
  rw [valT_length]
  have := (valueL_length v.data.toList).2
  rw [list_size] at this
  omega
theorem val_elms (W : World) : Calls Tryz.prog 58 #[.string (bytes (elmsT (oneE v) ++ []))] W (ElmsAns W (oneE v) []) := by
  refine elements_good (oneE v) [] W (by simp) (show (1 : Nat) ≤ 64 by decide) (one_good v) (fun _ => rfl) ?_
  have h := val_len v hv
  unfold valT at h
  simp only [List.length_cons] at h
  omega
include hS hm
theorem val_good (hr : Lib.validD v.data.toList = true) : Calls Tryz.prog 23 #[.string (bytes (valT v))] w (GoodAns 0 0 false 0 [] [] [] [] [] (oneE v) w) :=
  parse_good (valT v) _ _ _ _ _ _ _ _ [] [48] [] [] [] [] [] [] 0 0 0 false (oneE v) w hS hm (val_len v hv) (until_here 60 _) (until_one 48 62 _ (by decide)) (until_one 49 32 _ (by decide)) (told_none _) (told_none _) (told_none _) (told_none _) (told_none _)
    (fun W _ _ => origin_0 W)
    (fun W _ _ => (moment_none W).mono fun e w' ⟨h1, h2⟩ => ⟨h1, h2 ▸ Below.refl _ _⟩)
    (fun W _ _ => val_elms v hv W)
    (fun W _ _ => (behind_any [] W).mono fun e w' ⟨h1, h2⟩ => ⟨h1, h2 ▸ Below.refl _ _⟩)
    (one_fits v hv) (by decide) (by rw [one_right, if_pos hr])
theorem val_bad (hr : Lib.validD v.data.toList = false) : Calls Tryz.prog 23 #[.string (bytes (valT v))] w (BadAns w) :=
  parse_bad (valT v) _ _ _ _ _ _ _ _ [] [48] [] [] [] [] [] [] 0 0 0 false (oneE v) w hS hm (val_len v hv) (until_here 60 _) (until_one 48 62 _ (by decide)) (until_one 49 32 _ (by decide)) (told_none _) (told_none _) (told_none _) (told_none _) (told_none _)
    (fun W _ _ => origin_0 W)
    (fun W _ _ => (moment_none W).mono fun e w' ⟨h1, h2⟩ => ⟨h1, h2 ▸ Below.refl _ _⟩)
    (fun W _ _ => val_elms v hv W)
    (fun W _ _ => (behind_any [] W).mono fun e w' ⟨h1, h2⟩ => ⟨h1, h2 ▸ Below.refl _ _⟩)
    (one_fits v hv) (by decide) 3 (by rw [one_right, if_neg (by rw [hr]; decide)]) (by decide)
end
end Go.Proofs.YtnaijahhogndjaaGreatDoor
/- A text's event, as a list tells it: what sysl.Parse takes off a text, part by part; and that a right event's text tells it again. -/
namespace Go.Proofs.YtnaijahhogndjaaGreatDoor
open Go.ChangeShapes Go.WideShapes Go.ChangeAt Go.RowKit

/-- Parameters, so many at most, off a text. -/
def prmsL : Nat → List UInt8 → Option (List Prm × List UInt8)
  | 0, l => some ([], l)
  | n + 1, l =>
    if Lib.hasPrefix l [32] = true then
      if Lib.hasPrefix ((Lib.trimPrefix l [32]).drop (nameAt (Lib.trimPrefix l [32]))) [61, 34] = true then
        match takeV (Lib.trimPrefix ((Lib.trimPrefix l [32]).drop (nameAt (Lib.trimPrefix l [32]))) [61, 34]) with
        | some p => (prmsL n p.2).map fun z => ((bytes ((Lib.trimPrefix l [32]).take (nameAt (Lib.trimPrefix l [32]))), bytes p.1) :: z.1, z.2)
        | none => none
      else none
    else some ([], l)
/-- An element off a text. -/
def elementL (l : List UInt8) : Option (Elm × List UInt8) :=
  match prmsL 64 ((Lib.trimPrefix l [91]).drop (nameAt (Lib.trimPrefix l [91]))) with
  | some p => if Lib.hasPrefix p.2 [93] = true then some ((bytes ((Lib.trimPrefix l [91]).take (nameAt (Lib.trimPrefix l [91]))), p.1), Lib.trimPrefix p.2 [93]) else none
  | none => none
/-- Elements, so many at most, off a text. -/
def elmsL : Nat → List UInt8 → Option (List Elm × List UInt8)
  | 0, l => some ([], l)
  | n + 1, l =>
    if Lib.hasPrefix l [91] = true then
      match elementL l with
      | some p => (elmsL n p.2).map fun z => (p.1 :: z.1, z.2)
      | none => none
    else some ([], l)
def elementsL (l : List UInt8) : Option (List Elm × List UInt8) :=
  if Lib.hasPrefix l [45] = true then some ([], Lib.trimPrefix l [45])
  else match elmsL 64 l with
    | some p => if p.1 = [] then none else some p
    | none => none

theorem cut_at (c : UInt8) (r : List UInt8) : ∀ p : List UInt8, (∀ x ∈ p, [c].contains x = false) → Lib.cut (p ++ c :: r) [c] = (p, r, true)
  | [], _ => cut_here c r
  | x :: p, h => cut_next x c _ _ _ (by have := h x (by simp); simpa using this) (cut_at c r p fun y hy => h y (by simp [hy]))
theorem until_at (c : UInt8) (p r : List UInt8) (h : ∀ x ∈ p, [c].contains x = false) : untilL [c] (p ++ c :: r, true) = (p, r, true) := by
  unfold untilL; rw [show ((p ++ c :: r, true) : St).1 = p ++ c :: r from rfl, cut_at c r p h]; rfl
theorem told_at (p r : List UInt8) (h : ∀ x ∈ p, [32].contains x = false) (h0 : p ≠ []) : toldL (p ++ 32 :: r, true) = (if p = [45] then [] else p, r, true) := by
  unfold toldL
  rw [until_at 32 p r h]
  simp [h0]
theorem or_told {s : ByteArray} {m : Int} (h : wordB s.data.toList m = true) : (orB s).data.toList ≠ [] ∧ (if (orB s).data.toList = [45] then [] else (orB s).data.toList) = s.data.toList := by
  have hz := list_size s
  by_cases h0 : s.size = 0
  · have e : orB s = bytes [45] := by unfold orB; rw [if_pos h0]
    have hl : s.data.toList = [] := List.eq_nil_of_length_eq_zero (by omega)
    rw [e, bytes_list, hl]
    simp
  · have e : orB s = s := by unfold orB; rw [if_neg h0]
    have hl : s.data.toList ≠ [] := fun hn => h0 (by rw [← hz, hn]; rfl)
    rw [e]
    refine ⟨hl, ?_⟩
    unfold wordB at h
    rw [Bool.or_eq_true, Bool.and_eq_true] at h
    rcases h with h | ⟨h, _⟩
    · exact absurd (of_decide_eq_true h) hl
    · rw [if_neg]
      intro h45
      rw [h45] at h
      revert h
      decide
theorem told_or {s : ByteArray} {m : Int} (h : wordB s.data.toList m = true) (r : List UInt8) : toldL ((orB s).data.toList ++ 32 :: r, true) = (s.data.toList, r, true) := by
  rw [told_at _ _ (or_no32 h) (or_told h).1, (or_told h).2]
/-- A right event's text, part by part. -/
theorem printT_parts (g f : Int) (T : List UInt8) (ho ap pr id : ByteArray) (da : List Elm) (tx : ByteArray) :
    printT g f T ho ap pr id da tx = 60 :: (Lib.decDigits (8 * f + g).toNat ++ 62 :: (49 :: 32 :: (T ++ 32 :: ((orB ho).data.toList ++ 32 :: ((orB ap).data.toList ++ 32 :: ((orB pr).data.toList ++ 32 :: ((orB id).data.toList ++ 32 :: ((if da = [] then [45] else elmsT da) ++ behindT tx.data.toList)))))))) := by
  unfold printT
  simp [flatL, bytes]
end Go.Proofs.YtnaijahhogndjaaGreatDoor
/- Small laws for the document's own Same. -/
namespace Go.Proofs.YtnaijahhogndjaaGreatDoor
open Go.ChangeShapes Go.WideShapes Go.ChangeAt Go.RowKit

theorem toList_same (s : ByteArray) : (s.toList == s.toList) = true := beq_self_eq_true _
theorem toList_other {s t : ByteArray} (h : s ≠ t) : (s.toList == t.toList) = false := by rw [eq_text]; exact decide_eq_false h
theorem drewN_b (w : World) (n : Nat) : Below w.heap.size w (w.drewN n) := ⟨rfl, rfl, rfl, Nat.le_refl _, fun _ _ => rfl⟩
end Go.Proofs.YtnaijahhogndjaaGreatDoor
