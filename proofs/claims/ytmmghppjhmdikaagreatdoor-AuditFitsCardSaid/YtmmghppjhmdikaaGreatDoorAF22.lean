/- The texts Print, PrintLists, one behind the other. -/
import Derived.Test.YtmmghppjhmdikaaGreatDoorAF10
import Derived.Test.YtmmghppjhmdikaaGreatDoorAF36
/- What sysl.Print answers of an event: its text, if it is right. Conditions: the tables stand; sizes. -/
namespace Go.Proofs.YtmmghppjhmdikaaGreatDoor
open Go.ChangeShapes Go.WideShapes Go.ChangeAt Go.RowKit

def orB (s : ByteArray) : ByteArray := if s.size = 0 then bytes [45] else s
theorem orB_size (s : ByteArray) : (orB s).size ≤ s.size + 1 := by unfold orB; split; · show 1 ≤ _; omega
                                                                   · omega
/-- A right event's text, its moment's given. -/
def printT (g f : Int) (T : List UInt8) (ho ap pr id : ByteArray) (da : List Elm) (tx : ByteArray) : List UInt8 :=
  flatL [bytes (flatL [⟨#[60]⟩, bytes (Lib.decDigits (8 * f + g).toNat), ⟨#[62]⟩, ⟨#[49]⟩, ⟨#[32]⟩, bytes T, ⟨#[32]⟩]), bytes (flatL [orB ho, ⟨#[32]⟩, orB ap, ⟨#[32]⟩, orB pr, ⟨#[32]⟩, orB id, ⟨#[32]⟩]), bytes (if da = [] then [45] else elmsT da), bytes (behindT tx.data.toList)]
/-- What Print answers. -/
def PrintAns (e : Ev) (w : World) (r : Ending) (w' : World) : Prop :=
  ((rightE e ≠ 0 ∧ r = .returned (.tuple #[.string ⟨#[]⟩, .int .i64 (rightE e)])) ∨ (rightE e = 0 ∧ ∃ T, TimeIs e.timed e.at' T ∧ r = .returned (.tuple #[.string (bytes (printT e.grave e.from' T e.host e.app e.proc e.id e.data e.text)), .int .i64 0]))) ∧ Below w.heap.size w w'
/-- An event's place holds its last six parts. -/
abbrev Sev (w0 : World) (b : Nat) (ho ap pr id tx : ByteArray) (dv : Value) (W : World) : Prop :=
  Below w0.heap.size w0 W ∧ W.cell? ⟨b, 4, none⟩ = some (.string ho) ∧ W.cell? ⟨b, 5, none⟩ = some (.string ap) ∧ W.cell? ⟨b, 6, none⟩ = some (.string pr) ∧ W.cell? ⟨b, 7, none⟩ = some (.string id) ∧ W.cell? ⟨b, 8, none⟩ = some dv ∧ W.cell? ⟨b, 9, none⟩ = some (.string tx) ∧ b < W.heap.size
theorem sev_below {w0 W W' : World} {b : Nat} {ho ap pr id tx : ByteArray} {dv : Value} (h : Sev w0 b ho ap pr id tx dv W) (hb : Below W.heap.size W W') : Sev w0 b ho ap pr id tx dv W' := by
  obtain ⟨h0, h4, h5, h6, h7, h8, h9, hl⟩ := h
  have hc := (bcell hb).1
  exact ⟨h0.trans (hb.mono h0.size), (hc _ _ hl).trans h4, (hc _ _ hl).trans h5, (hc _ _ hl).trans h6, (hc _ _ hl).trans h7, (hc _ _ hl).trans h8, (hc _ _ hl).trans h9, Nat.lt_of_lt_of_le hl hb.size⟩
theorem time_len {td : Bool} {a : Int} {T : List UInt8} (h : TimeIs td a T) : T.length ≤ 64 := by
  rcases h with ⟨_, rfl⟩ | ⟨_, y, m, d, hh, i, s, k, _, rfl⟩
  · decide
  · unfold Cal.dateText Cal.nanoText Cal.zoneText
    simp only [List.length_append, Cal.pad_length, List.length_cons, List.length_nil]
    repeat' split
    all_goals simp [Cal.pad_length]
theorem dec_len (n : Nat) (hn : n < 1000) : (Lib.decDigits n).length ≤ 3 := (Cal.pad_dec 3 n (by decide) hn).1
theorem right_parts {g f a : Int} {t : Bool} {ho ap pr id tx : ByteArray} {da : List Elm} (h : rightE ⟨g, f, t, a, ho, ap, pr, id, da, tx⟩ = 0) :
    (0 ≤ g ∧ g ≤ 7) ∧ (0 ≤ f ∧ f ≤ 23) ∧ timeB t a = true ∧ (wordB ho.data.toList 255 = true ∧ wordB ap.data.toList 48 = true ∧ wordB pr.data.toList 128 = true ∧ wordB id.data.toList 32 = true) ∧ dataB da = true ∧ Lib.validD tx.data.toList = true ∧ da.length ≤ 64 ∧ ∀ e ∈ da, e.2.length ≤ 64 := by
  unfold rightE at h
  split at h
  · cases h
  · rename_i h1
    split at h
    · cases h
    · rename_i h2
      split at h
      · cases h
      · rename_i h3
        have h1' := Classical.not_not.1 h1
        have h2' := Classical.not_not.1 h2
        obtain ⟨w1, d1, v1⟩ := h2'
        unfold wordsB at w1
        simp only [Bool.and_eq_true] at w1
        refine ⟨h1'.1, h1'.2.1, h1'.2.2, ⟨w1.1, w1.2.1, w1.2.2.1, w1.2.2.2⟩, d1, v1, by have := fun hh => h3 (.inl hh); simp at this; omega, fun e he => ?_⟩
        rcases Nat.lt_or_ge 64 e.2.length with hx | hx
        · exact absurd (.inr (List.any_eq_true.2 ⟨e, he, decide_eq_true hx⟩)) h3
        · exact hx
theorem word_len {s : ByteArray} {m : Int} (h : wordB s.data.toList m = true) (hm : m ≤ 255) : s.size ≤ 255 := by
  unfold wordB at h
  rw [Bool.or_eq_true, Bool.and_eq_true] at h
  rcases h with h | ⟨_, h⟩
  · have := of_decide_eq_true h
    have e := list_size s
    rw [this] at e
    simp at e
    omega
  · have := (plain_len h).2
    rw [list_size] at this
    omega
end Go.Proofs.YtmmghppjhmdikaaGreatDoor
/- Printed texts, as lists: two right events have one text just if they are the same. -/
namespace Go.Proofs.YtmmghppjhmdikaaGreatDoor
open Cal (clamp DateIs dateText nanosI rightB pad)

/-- Up to a sign of some, two texts are cut alike. -/
theorem span_inj (S : List UInt8) : ∀ (u u' r r' : List UInt8) (c c' : UInt8), (∀ x ∈ u, S.contains x = false) → (∀ x ∈ u', S.contains x = false) → S.contains c = true → S.contains c' = true → u ++ c :: r = u' ++ c' :: r' → u = u' ∧ c = c' ∧ r = r'
  | [], [], r, r', c, c', _, _, _, _, h => by cases h; exact ⟨rfl, rfl, rfl⟩
  | [], x :: u', r, r', c, c', _, h2, h3, _, h => by
    injection h with e _
    have := h2 x (by simp)
    rw [← e, h3] at this
    cases this
  | x :: u, [], r, r', c, c', h1, _, _, h4, h => by
    injection h with e _
    have := h1 x (by simp)
    rw [e, h4] at this
    cases this
  | x :: u, y :: u', r, r', c, c', h1, h2, h3, h4, h => by
    injection h with e h
    obtain ⟨e1, e2, e3⟩ := span_inj S u u' r r' c c' (fun z hz => h1 z (by simp [hz])) (fun z hz => h2 z (by simp [hz])) h3 h4 h
    exact ⟨by rw [e, e1], e2, e3⟩
theorem byte_ext {s t : ByteArray} (h : s.data.toList = t.data.toList) : s = t := by rw [← bytes_self s, ← bytes_self t, h]
theorem name_no4 {l : List UInt8} (h : nameB l = true) : ∀ x ∈ l, [61, 93, 34, 32].contains x = false := fun x hx => (name_bytes h x hx).1
/-! ### parameters and elements -/
theorem prms_inj : ∀ (ps qs : List Prm) (R R' : List UInt8), (∀ p ∈ ps, nameB p.1.data.toList = true) → (∀ p ∈ qs, nameB p.1.data.toList = true) → prmsT ps ++ 93 :: R = prmsT qs ++ 93 :: R' → ps = qs ∧ R = R'
  | [], [], R, R', _, _, h => by
    have h' : (93 : UInt8) :: R = 93 :: R' := h
    injection h' with _ e
    exact ⟨rfl, e⟩
  | [], q :: qs, R, R', _, _, h => by
    have e := prms_step (ps := q :: qs) (k := 0) rfl R'
    rw [List.drop_zero] at e
    rw [e] at h
    injection h with e1 _
    exact absurd e1 (by decide)
  | p :: ps, [], R, R', _, _, h => by
    have e := prms_step (ps := p :: ps) (k := 0) rfl R
    rw [List.drop_zero] at e
    rw [e] at h
    injection h with e1 _
    exact absurd e1 (by decide)
  | p :: ps, q :: qs, R, R', hp, hq, h => by
    have e := prms_step (ps := p :: ps) (k := 0) rfl R
    have e' := prms_step (ps := q :: qs) (k := 0) rfl R'
    rw [List.drop_zero] at e e'
    rw [e, e'] at h
    injection h with _ h
    obtain ⟨n1, _, n3⟩ := span_inj [61, 93, 34, 32] _ _ _ _ 61 61 (name_no4 (hp p (by simp))) (name_no4 (hq q (by simp))) (by decide) (by decide) h
    injection n3 with _ n4
    have t1 := takeV_value (prmsT ((p :: ps).drop (0 + 1)) ++ 93 :: R) p.2.data.toList
    rw [n4, takeV_value] at t1
    have t2 := Option.some.inj t1
    have v1 := congrArg Prod.fst t2
    have v2 : prmsT qs ++ 93 :: R' = prmsT ps ++ 93 :: R := congrArg Prod.snd t2
    obtain ⟨i1, i2⟩ := prms_inj ps qs R R' (fun x hx => hp x (by simp [hx])) (fun x hx => hq x (by simp [hx])) v2.symm
    exact ⟨by rw [i1, Prod.ext (byte_ext n1) (byte_ext v1.symm)], i2⟩
def elmName (e : Elm) : Prop := nameB e.1.data.toList = true ∧ ∀ p ∈ e.2, nameB p.1.data.toList = true
theorem elm_inj {e e' : Elm} {R R' : List UInt8} (h1 : elmName e) (h2 : elmName e') (h : elmT e ++ R = elmT e' ++ R') : e = e' ∧ R = R' := by
  have a1 : elmT e ++ R = 91 :: (e.1.data.toList ++ (prmsT e.2 ++ 93 :: R)) := by simp [elmT]
  have a2 : elmT e' ++ R' = 91 :: (e'.1.data.toList ++ (prmsT e'.2 ++ 93 :: R')) := by simp [elmT]
  rw [a1, a2] at h
  injection h with _ h
  obtain ⟨c, r, e1, hc⟩ := prms_head e.2 R
  obtain ⟨c', r', e2, hc'⟩ := prms_head e'.2 R'
  rw [e1, e2] at h
  obtain ⟨n1, n2, n3⟩ := span_inj [61, 93, 34, 32] _ _ _ _ c c' (name_no4 h1.1) (name_no4 h2.1) hc hc' h
  rw [← n2, ← n3, ← e1] at e2
  obtain ⟨p1, p2⟩ := prms_inj e.2 e'.2 R R' h1.2 h2.2 e2.symm
  exact ⟨Prod.ext (byte_ext n1) p1, p2⟩
theorem behind_head (t : List UInt8) : behindT t = [] ∨ ∃ r, behindT t = 32 :: r := by
  unfold behindT
  split
  · exact .inl rfl
  · exact .inr ⟨_, rfl⟩
theorem behind_inj {t t' : List UInt8} (h : behindT t = behindT t') : t = t' := by
  unfold behindT at h
  split at h <;> split at h
  · rename_i a b; rw [a, b]
  · cases h
  · cases h
  · injection h with _ h; injection h with _ h; injection h with _ h; injection h
theorem elms_inj : ∀ (es fs : List Elm) (t t' : List UInt8), (∀ e ∈ es, elmName e) → (∀ e ∈ fs, elmName e) → elmsT es ++ behindT t = elmsT fs ++ behindT t' → es = fs ∧ behindT t = behindT t'
  | [], [], _, _, _, _, h => ⟨rfl, h⟩
  | [], f :: fs, t, t', _, _, h => by
    exfalso
    have e2 : elmsT (f :: fs) = elmT f ++ elmsT fs := rfl
    have h' : behindT t = 91 :: (f.1.data.toList ++ (prmsT f.2 ++ [93]) ++ elmsT fs ++ behindT t') := h
    rcases behind_head t with hb | ⟨r, hb⟩
    · rw [hb] at h'; cases h'
    · rw [hb] at h'; injection h' with e; exact absurd e (by decide)
  | f :: fs, [], t, t', _, _, h => by
    exfalso
    have h' : 91 :: (f.1.data.toList ++ (prmsT f.2 ++ [93]) ++ elmsT fs ++ behindT t) = behindT t' := h
    rcases behind_head t' with hb | ⟨r, hb⟩
    · rw [hb] at h'; cases h'
    · rw [hb] at h'; injection h' with e; exact absurd e (by decide)
  | e :: es, f :: fs, t, t', h1, h2, h => by
    have a1 : elmsT (e :: es) ++ behindT t = elmT e ++ (elmsT es ++ behindT t) := by
      have : elmsT (e :: es) = elmT e ++ elmsT es := rfl
      rw [this, List.append_assoc]
    have a2 : elmsT (f :: fs) ++ behindT t' = elmT f ++ (elmsT fs ++ behindT t') := by
      have : elmsT (f :: fs) = elmT f ++ elmsT fs := rfl
      rw [this, List.append_assoc]
    rw [a1, a2] at h
    obtain ⟨i1, i2⟩ := elm_inj (h1 e (by simp)) (h2 f (by simp)) h
    obtain ⟨j1, j2⟩ := elms_inj es fs t t' (fun x hx => h1 x (by simp [hx])) (fun x hx => h2 x (by simp [hx])) i2
    exact ⟨by rw [i1, j1], j2⟩
theorem data_names {da : List Elm} (h : dataB da = true) : ∀ e ∈ da, elmName e := by
  intro e he
  unfold dataB at h
  rw [Bool.and_eq_true, List.all_eq_true] at h
  have h1 := h.1 e he
  unfold okE at h1
  rw [Bool.and_eq_true] at h1
  refine ⟨h1.1, fun p hp => ?_⟩
  have h2 : e.2.any wrongB = false := by simpa using h1.2
  rw [List.any_eq_false] at h2
  have h3 := h2 p hp
  unfold wrongB at h3
  simp at h3
  exact h3.1
theorem tail_inj {da db : List Elm} {t t' : List UInt8} (h1 : dataB da = true) (h2 : dataB db = true) (h : (if da = [] then [45] else elmsT da) ++ behindT t = (if db = [] then [45] else elmsT db) ++ behindT t') : da = db ∧ t = t' := by
  by_cases ha : da = []
  · by_cases hb : db = []
    · rw [if_pos ha, if_pos hb] at h
      injection h with _ h
      exact ⟨by rw [ha, hb], behind_inj h⟩
    · exfalso
      rw [if_pos ha, if_neg hb] at h
      cases db with
      | nil => exact hb rfl
      | cons f fs =>
        have h' : (45 : UInt8) :: behindT t = 91 :: (f.1.data.toList ++ (prmsT f.2 ++ [93]) ++ elmsT fs ++ behindT t') := h
        injection h' with e
        exact absurd e (by decide)
  · by_cases hb : db = []
    · exfalso
      rw [if_neg ha, if_pos hb] at h
      cases da with
      | nil => exact ha rfl
      | cons f fs =>
        have h' : 91 :: (f.1.data.toList ++ (prmsT f.2 ++ [93]) ++ elmsT fs ++ behindT t) = (45 : UInt8) :: behindT t' := h
        injection h' with e
        exact absurd e (by decide)
    · rw [if_neg ha, if_neg hb] at h
      obtain ⟨i1, i2⟩ := elms_inj da db t t' (data_names h1) (data_names h2) h
      exact ⟨i1, behind_inj i2⟩
/-! ### numbers, moments, words -/
theorem pad_inj {k n n' : Nat} (h1 : n < 10 ^ k) (h2 : n' < 10 ^ k) (h : pad k n = pad k n') : n = n' := by
  have e1 := Cal.numOf_pad k n h1
  have e2 := Cal.numOf_pad k n' h2
  rw [h, e2] at e1
  omega
theorem dec_inj {n n' : Nat} (h1 : n < 1000) (h2 : n' < 1000) (h : Lib.decDigits n = Lib.decDigits n') : n = n' := by
  have e1 := (Cal.pad_dec 3 n (by decide) h1).2
  have e2 := (Cal.pad_dec 3 n' (by decide) h2).2
  rw [h, e2] at e1
  exact pad_inj h1 h2 e1.symm
theorem dec_digs {n : Nat} (h1 : n < 1000) : ∀ x ∈ Lib.decDigits n, [62].contains x = false := by
  intro x hx
  have e1 := (Cal.pad_dec 3 n (by decide) h1).2
  have hd := Cal.pad_digs 3 n x (by rw [← e1]; simp [hx])
  have hd' := of_decide_eq_true hd
  have : x ≠ 62 := fun h => by rw [h] at hd'; revert hd'; decide
  simpa using this
theorem pad_no32 {k n : Nat} : ∀ x ∈ pad k n, x ≠ 32 := by
  intro x hx h
  have hd := of_decide_eq_true (Cal.pad_digs k n x hx)
  rw [h] at hd
  revert hd
  decide
theorem date_no32 (y m d h i s n : Int) : ∀ x ∈ dateText y m d h i s n 0, x ≠ 32 := by
  intro x hx
  unfold dateText Cal.nanoText Cal.zoneText at hx
  simp only [List.mem_append, List.mem_cons, List.not_mem_nil, or_false, if_true] at hx
  rcases hx with h | rfl | h | rfl | h | rfl | h | rfl | h | rfl | h | h | h
  · exact pad_no32 x h
  · decide
  · exact pad_no32 x h
  · decide
  · exact pad_no32 x h
  · decide
  · exact pad_no32 x h
  · decide
  · exact pad_no32 x h
  · decide
  · exact pad_no32 x h
  · split at h
    · cases h
    · rcases List.mem_append.1 h with h | h
      · have : x = 46 := by simpa using h
        rw [this]; decide
      · exact pad_no32 x h
  · rw [h]; decide
theorem time_no32 {td : Bool} {a : Int} {T : List UInt8} (h : TimeIs td a T) : ∀ x ∈ T, [32].contains x = false := by
  intro x hx
  rcases h with ⟨_, rfl⟩ | ⟨_, y, m, d, hh, i, s, k, _, rfl⟩
  · have : x = 45 := by simpa using hx
    rw [this]; decide
  · have := date_no32 y m d hh i s k x hx
    simpa using this
theorem date_inj {y m d h i s n y' m' d' h' i' s' n' : Int} (r : rightB y m d h i s n 0 = true) (r' : rightB y' m' d' h' i' s' n' 0 = true) (e : dateText y m d h i s n 0 = dateText y' m' d' h' i' s' n' 0) :
    y = y' ∧ m = m' ∧ d = d' ∧ h = h' ∧ i = i' ∧ s = s' ∧ n = n' := by
  obtain ⟨⟨y1, y2⟩, ⟨d1, d2⟩, ⟨h1, h2⟩, ⟨i1, i2⟩, ⟨s1, s2⟩, ⟨n1, n2⟩, n3, _⟩ := (Cal.right_iff ..).1 r
  obtain ⟨⟨y1', y2'⟩, ⟨d1', d2'⟩, ⟨h1', h2'⟩, ⟨i1', i2'⟩, ⟨s1', s2'⟩, ⟨n1', n2'⟩, n3', _⟩ := (Cal.right_iff ..).1 r'
  obtain ⟨m1, m2⟩ := Cal.month_of_day d1 d2
  obtain ⟨m1', m2'⟩ := Cal.month_of_day d1' d2'
  have d3 : d ≤ 31 := by have := (Cal.lenI_bd y m).2; omega
  have d3' : d' ≤ 31 := by have := (Cal.lenI_bd y' m').2; omega
  unfold dateText at e
  obtain ⟨a1, e⟩ := List.append_inj e (by rw [Cal.pad_length, Cal.pad_length])
  obtain ⟨_, e⟩ := List.append_inj e rfl
  obtain ⟨a2, e⟩ := List.append_inj e (by rw [Cal.pad_length, Cal.pad_length])
  obtain ⟨_, e⟩ := List.append_inj e rfl
  obtain ⟨a3, e⟩ := List.append_inj e (by rw [Cal.pad_length, Cal.pad_length])
  obtain ⟨_, e⟩ := List.append_inj e rfl
  obtain ⟨a4, e⟩ := List.append_inj e (by rw [Cal.pad_length, Cal.pad_length])
  obtain ⟨_, e⟩ := List.append_inj e rfl
  obtain ⟨a5, e⟩ := List.append_inj e (by rw [Cal.pad_length, Cal.pad_length])
  obtain ⟨_, e⟩ := List.append_inj e rfl
  obtain ⟨a6, e⟩ := List.append_inj e (by rw [Cal.pad_length, Cal.pad_length])
  have en : Cal.nanoText n = Cal.nanoText n' := List.append_cancel_right e
  have b1 := pad_inj (k := 4) (by omega) (by omega) a1
  have b2 := pad_inj (k := 2) (by omega) (by omega) a2
  have b3 := pad_inj (k := 2) (by omega) (by omega) a3
  have b4 := pad_inj (k := 2) (by omega) (by omega) a4
  have b5 := pad_inj (k := 2) (by omega) (by omega) a5
  have b6 := pad_inj (k := 2) (by omega) (by omega) a6
  have b7 : n = n' := by
    unfold Cal.nanoText at en
    split at en <;> split at en
    · omega
    · cases en
    · cases en
    · have e2 := List.append_cancel_left en
      have := pad_inj (k := 6) (by omega) (by omega) e2
      omega
  exact ⟨by omega, by omega, by omega, by omega, by omega, by omega, b7⟩
theorem time_inj {td td' : Bool} {a a' : Int} {T : List UInt8} (h : TimeIs td a T) (h' : TimeIs td' a' T) (r : timeB td a = true) (r' : timeB td' a' = true) : td = td' ∧ a = a' := by
  have hlen : ∀ y m d hh i s k, dateText y m d hh i s k 0 ≠ [45] := fun y m d hh i s k e => by
    have := congrArg List.length e
    unfold dateText at this
    simp [Cal.pad_length] at this
    omega
  rcases h with ⟨rfl, rfl⟩ | ⟨rfl, y, m, d, hh, i, s, k, hD, rfl⟩
  · rcases h' with ⟨rfl, _⟩ | ⟨rfl, y, m, d, hh, i, s, k, _, e⟩
    · have e1 : a = 0 := of_decide_eq_true r
      have e2 : a' = 0 := of_decide_eq_true r'
      exact ⟨rfl, by rw [e1, e2]⟩
    · exact (hlen _ _ _ _ _ _ _ e.symm).elim
  · rcases h' with ⟨rfl, e⟩ | ⟨rfl, y', m', d', hh', i', s', k', hD', e⟩
    · exact (hlen _ _ _ _ _ _ _ e).elim
    · obtain ⟨r1, n1⟩ := hD
      obtain ⟨r2, n2⟩ := hD'
      obtain ⟨rfl, rfl, rfl, rfl, rfl, rfl, rfl⟩ := date_inj r1 r2 e
      have e1 : clamp a - clamp a % 1000 = a := of_decide_eq_true r
      have e2 : clamp a' - clamp a' % 1000 = a' := of_decide_eq_true r'
      exact ⟨rfl, by rw [← e1, ← e2, ← n1, ← n2]⟩
theorem or_no32 {s : ByteArray} {m : Int} (h : wordB s.data.toList m = true) : ∀ x ∈ (orB s).data.toList, [32].contains x = false := by
  intro x hx
  unfold orB at hx
  split at hx
  · have : x = 45 := by simpa [bytes] using hx
    rw [this]; decide
  · rename_i h0
    unfold wordB at h
    rw [Bool.or_eq_true, Bool.and_eq_true] at h
    rcases h with h | ⟨_, h⟩
    · exfalso
      have e := of_decide_eq_true h
      rw [e] at hx
      cases hx
    · unfold plainB at h
      rw [Bool.and_eq_true, List.all_eq_true] at h
      have h2 := of_decide_eq_true (h.2 x hx)
      have : x ≠ 32 := fun hh => by rw [hh] at h2; revert h2; decide
      simpa using this
theorem or_inj {s t : ByteArray} {m : Int} (h1 : wordB s.data.toList m = true) (h2 : wordB t.data.toList m = true) (h : (orB s).data.toList = (orB t).data.toList) : s = t := by
  have key : ∀ {u : ByteArray}, wordB u.data.toList m = true → u.data.toList ≠ [45] := fun {u} hu he => by
    unfold wordB at hu
    rw [he] at hu
    simp at hu
  unfold orB at h
  split at h <;> split at h
  · rename_i a b
    apply byte_ext
    have e1 : s.data.toList = [] := List.eq_nil_of_length_eq_zero (by rw [list_size]; exact a)
    have e2 : t.data.toList = [] := List.eq_nil_of_length_eq_zero (by rw [list_size]; exact b)
    rw [e1, e2]
  · exact absurd h.symm (key h2)
  · exact absurd h (key h1)
  · exact byte_ext h
/-- Two right events whose texts are the same are the same. -/
theorem print_inj {g f a g' f' a' : Int} {t t' : Bool} {ho ap pr id tx ho' ap' pr' id' tx' : ByteArray} {da db : List Elm} {T T' : List UInt8}
    (r : rightE ⟨g, f, t, a, ho, ap, pr, id, da, tx⟩ = 0) (r' : rightE ⟨g', f', t', a', ho', ap', pr', id', db, tx'⟩ = 0) (hT : TimeIs t a T) (hT' : TimeIs t' a' T')
    (h : printT g f T ho ap pr id da tx = printT g' f' T' ho' ap' pr' id' db tx') : (⟨g, f, t, a, ho, ap, pr, id, da, tx⟩ : Ev) = ⟨g', f', t', a', ho', ap', pr', id', db, tx'⟩ := by
  obtain ⟨⟨g1, g2⟩, ⟨f1, f2⟩, tm, ⟨w1, w2, w3, w4⟩, dd, _, _, _⟩ := right_parts r
  obtain ⟨⟨g1', g2'⟩, ⟨f1', f2'⟩, tm', ⟨w1', w2', w3', w4'⟩, dd', _, _, _⟩ := right_parts r'
  have flat : ∀ (g f : Int) (T : List UInt8) (ho ap pr id : ByteArray) (da : List Elm) (tx : ByteArray), printT g f T ho ap pr id da tx = 60 :: (Lib.decDigits (8 * f + g).toNat ++ 62 :: 49 :: 32 :: (T ++ 32 :: ((orB ho).data.toList ++ 32 :: ((orB ap).data.toList ++ 32 :: ((orB pr).data.toList ++ 32 :: ((orB id).data.toList ++ 32 :: ((if da = [] then [45] else elmsT da) ++ behindT tx.data.toList))))))) := by
    intro g f T ho ap pr id da tx
    simp [printT, flatL, bytes]
  rw [flat, flat] at h
  injection h with _ h
  obtain ⟨c1, _, h⟩ := span_inj [62] _ _ _ _ 62 62 (dec_digs (by omega)) (dec_digs (by omega)) (by decide) (by decide) h
  injection h with _ h
  injection h with _ h
  obtain ⟨c2, _, h⟩ := span_inj [32] _ _ _ _ 32 32 (time_no32 hT) (time_no32 hT') (by decide) (by decide) h
  obtain ⟨c3, _, h⟩ := span_inj [32] _ _ _ _ 32 32 (or_no32 w1) (or_no32 w1') (by decide) (by decide) h
  obtain ⟨c4, _, h⟩ := span_inj [32] _ _ _ _ 32 32 (or_no32 w2) (or_no32 w2') (by decide) (by decide) h
  obtain ⟨c5, _, h⟩ := span_inj [32] _ _ _ _ 32 32 (or_no32 w3) (or_no32 w3') (by decide) (by decide) h
  obtain ⟨c6, _, h⟩ := span_inj [32] _ _ _ _ 32 32 (or_no32 w4) (or_no32 w4') (by decide) (by decide) h
  obtain ⟨rfl, c7⟩ := tail_inj dd dd' h
  subst c2
  obtain ⟨rfl, rfl⟩ := time_inj hT hT' tm tm'
  have n := dec_inj (by omega) (by omega) c1
  obtain rfl : g = g' := by omega
  obtain rfl : f = f' := by omega
  obtain rfl := or_inj w1 w1' c3
  obtain rfl := or_inj w2 w2' c4
  obtain rfl := or_inj w3 w3' c5
  obtain rfl := or_inj w4 w4' c6
  obtain rfl := byte_ext c7
  rfl
end Go.Proofs.YtmmghppjhmdikaaGreatDoor
