/- What the document's own Parse answers, as a function of a list of bytes; it is what cal.Parse tells of it. No program is spoken of. -/
import Derived.Test.YtameffdjjcpbkaaDoorParsed
import Derived.Test.YtameffdjjcpbkaaDoorRefRead
namespace Go.Proofs.YtameffdjjcpbkaaDoor
open Go

abbrev R10 := Int × Int × Int × Int × Int × Int × Int × Int × List UInt8 × Int
def wrongR : R10 := (0, 0, 0, 0, 0, 0, 0, 0, [], 3)
def marksR (l : List UInt8) : Bool := isAt l 4 45 && isAt l 7 45 && isAt l 10 84 && isAt l 13 58 && isAt l 16 58
def nanoN (l : List UInt8) (k : Nat) : Int := numOf ((l.drop 20).take k) * ((10 ^ (9 - k) : Nat) : Int)
def nanoR (l : List UInt8) : Option (Int × Nat) :=
  if isAt l 19 46 = true then (if figs (l.drop 20) 6 = 0 then none else some (nanoN l (figs (l.drop 20) 6), 20 + figs (l.drop 20) 6)) else some (0, 19)
def zoneR (l : List UInt8) (p : Nat) : Option (Int × Nat) :=
  if isAt l p 90 = true then some (0, p + 1)
  else if ((isAt l p 43 || isAt l p 45) && isAt l (p + 3) 58 && (decide (0 ≤ numAt l (p + 1) 2) && decide (numAt l (p + 1) 2 ≤ 23)) && (decide (0 ≤ numAt l (p + 4) 2) && decide (numAt l (p + 4) 2 ≤ 59))) = true then
    some (if isAt l p 45 = true then -(60 * numAt l (p + 1) 2 + numAt l (p + 4) 2) else 60 * numAt l (p + 1) 2 + numAt l (p + 4) 2, p + 6)
  else none
def rp (l : List UInt8) : R10 :=
  if marksR l = true then
    match nanoR l with
    | none => wrongR
    | some (n, p) => match zoneR l p with
      | none => wrongR
      | some (z, q) => if rightB (numAt l 0 4) (numAt l 5 2) (numAt l 8 2) (numAt l 11 2) (numAt l 14 2) (numAt l 17 2) n z = true then
          (numAt l 0 4, numAt l 5 2, numAt l 8 2, numAt l 11 2, numAt l 14 2, numAt l 17 2, n, z, l.drop q, 0) else wrongR
  else wrongR

/-! ### what is taken at a place -/
theorem numAt_ok (l : List UInt8) (p k : Nat) : 0 ≤ numAt l p k ↔ figs (l.drop p) k = k := by
  unfold numAt
  split
  · rename_i h
    have := (numOf_bd _ ((figs_iff _ _).1 h).2).1
    exact ⟨fun _ => h, fun _ => this⟩
  · rename_i h
    exact ⟨fun h' => by omega, fun h' => absurd h' h⟩
theorem hasPrefix_at (l : List UInt8) (p : Nat) (c : UInt8) : Lib.hasPrefix (l.drop p) [c] = isAt l p c := by
  unfold isAt Lib.hasPrefix
  rw [← List.head?_drop]
  cases l.drop p with
  | nil => simp
  | cons a t => simp [List.isPrefixOf, eq_comm, Bool.beq_eq_decide_eq]
theorem trim_at (l : List UInt8) (p : Nat) (c : UInt8) (h : isAt l p c = true) : Lib.trimPrefix (l.drop p) [c] = l.drop (p + 1) := by
  unfold Lib.trimPrefix
  rw [if_pos (by rw [hasPrefix_at]; exact h)]
  simp [List.drop_drop]
theorem tk_yes (l : List UInt8) (p k : Nat) (c : UInt8) (h : isAt l p c = true) (hn : 0 ≤ numAt l (p + 1) k) :
    tk [c] k (l.drop p) true = (numAt l (p + 1) k, l.drop (p + 1 + k), true) := by
  have hf := (numAt_ok ..).1 hn
  unfold tk numAt
  rw [hasPrefix_at, h, trim_at l p c h, hf]
  simp [List.drop_drop]
theorem tk_no (l : List UInt8) (p k : Nat) (c : UInt8) (h : ¬ (isAt l p c = true ∧ 0 ≤ numAt l (p + 1) k)) : (tk [c] k (l.drop p) true).2.2 = false := by
  unfold tk
  rw [hasPrefix_at]
  split
  · rename_i hc
    simp only [Bool.and_eq_true, decide_eq_true_iff] at hc
    rw [trim_at l p c hc.1.2] at hc
    exact absurd ⟨hc.1.2, (numAt_ok ..).2 hc.2⟩ h
  · rfl
theorem tk_yes0 (l : List UInt8) (k : Nat) (hn : 0 ≤ numAt l 0 k) : tk [] k l true = (numAt l 0 k, l.drop k, true) := by
  have hf := (numAt_ok ..).1 hn
  unfold tk numAt
  rw [List.drop_zero] at hf ⊢
  have e : Lib.trimPrefix l [] = l := by unfold Lib.trimPrefix; split <;> simp
  have e2 : Lib.hasPrefix l [] = true := by unfold Lib.hasPrefix; simp
  rw [e, e2, hf]
  simp
theorem tk_no0 (l : List UInt8) (k : Nat) (h : ¬ 0 ≤ numAt l 0 k) : (tk [] k l true).2.2 = false := by
  unfold tk
  have e : Lib.trimPrefix l [] = l := by unfold Lib.trimPrefix; split <;> simp
  rw [e]
  split
  · rename_i hc
    simp only [Bool.and_eq_true, decide_eq_true_iff] at hc
    exact absurd ((numAt_ok ..).2 (by rw [List.drop_zero]; exact hc.2)) h
  · rfl
theorem tk_stays (sg : List UInt8) (k : Nat) (t : T3) (h : t.2.2 = false) : (tk sg k t.2.1 t.2.2).2.2 = false := by rw [h, tk_false]

/-- Do the first six numbers and the marks between them fit? -/
def sixR (l : List UInt8) : Bool := marksR l && (decide (0 ≤ numAt l 0 4) && (decide (0 ≤ numAt l 5 2) && (decide (0 ≤ numAt l 8 2) && (decide (0 ≤ numAt l 11 2) && (decide (0 ≤ numAt l 14 2) && decide (0 ≤ numAt l 17 2))))))
theorem six_not_right (l : List UInt8) (n z : Int) (hm : marksR l = true) (h : ¬ sixR l = true) :
    rightB (numAt l 0 4) (numAt l 5 2) (numAt l 8 2) (numAt l 11 2) (numAt l 14 2) (numAt l 17 2) n z = false := by
  rw [← Bool.not_eq_true]
  intro hr
  obtain ⟨⟨y1, y2⟩, ⟨d1, d2⟩, ⟨h1, h2⟩, ⟨i1, i2⟩, ⟨s1, s2⟩, _⟩ := (right_iff ..).1 hr
  obtain ⟨m1, m2⟩ := month_of_day d1 d2
  apply h
  unfold sixR
  simp only [hm, Bool.true_and, Bool.and_eq_true, decide_eq_true_iff]
  omega
theorem rp_wrong (l : List UInt8) (h : ¬ sixR l = true) : rp l = wrongR := by
  unfold rp
  by_cases hm : marksR l = true
  · rw [if_pos hm]
    split
    · rfl
    · split
      · rfl
      · rw [six_not_right l _ _ hm h]; rfl
  · rw [if_neg hm]
theorem six_takes (l : List UInt8) (t1 t2 t3 t4 t5 t6 : T3) (e1 : tk [] 4 l true = t1) (e2 : tk [45] 2 t1.2.1 t1.2.2 = t2) (e3 : tk [45] 2 t2.2.1 t2.2.2 = t3) (e4 : tk [84] 2 t3.2.1 t3.2.2 = t4) (e5 : tk [58] 2 t4.2.1 t4.2.2 = t5) (e6 : tk [58] 2 t5.2.1 t5.2.2 = t6) :
    (sixR l = true ∧ t1.1 = numAt l 0 4 ∧ t2.1 = numAt l 5 2 ∧ t3.1 = numAt l 8 2 ∧ t4.1 = numAt l 11 2 ∧ t5.1 = numAt l 14 2 ∧ t6.1 = numAt l 17 2 ∧ t6.2.1 = l.drop 19 ∧ t6.2.2 = true) ∨ (¬ sixR l = true ∧ t6.2.2 = false) := by
  have six : sixR l = true ↔ (isAt l 4 45 = true ∧ isAt l 7 45 = true ∧ isAt l 10 84 = true ∧ isAt l 13 58 = true ∧ isAt l 16 58 = true) ∧ 0 ≤ numAt l 0 4 ∧ 0 ≤ numAt l 5 2 ∧ 0 ≤ numAt l 8 2 ∧ 0 ≤ numAt l 11 2 ∧ 0 ≤ numAt l 14 2 ∧ 0 ≤ numAt l 17 2 := by
    unfold sixR marksR
    simp only [Bool.and_eq_true, decide_eq_true_iff]
    simp only [and_assoc]
  rw [six]
  by_cases h1 : 0 ≤ numAt l 0 4
  · rw [tk_yes0 l 4 h1] at e1
    subst e1
    by_cases h2 : isAt l 4 45 = true ∧ 0 ≤ numAt l 5 2
    · rw [tk_yes l 4 2 45 h2.1 h2.2] at e2
      subst e2
      by_cases h3 : isAt l 7 45 = true ∧ 0 ≤ numAt l 8 2
      · rw [tk_yes l 7 2 45 h3.1 h3.2] at e3
        subst e3
        by_cases h4 : isAt l 10 84 = true ∧ 0 ≤ numAt l 11 2
        · rw [tk_yes l 10 2 84 h4.1 h4.2] at e4
          subst e4
          by_cases h5 : isAt l 13 58 = true ∧ 0 ≤ numAt l 14 2
          · rw [tk_yes l 13 2 58 h5.1 h5.2] at e5
            subst e5
            by_cases h6 : isAt l 16 58 = true ∧ 0 ≤ numAt l 17 2
            · rw [tk_yes l 16 2 58 h6.1 h6.2] at e6
              subst e6
              exact .inl ⟨⟨⟨h2.1, h3.1, h4.1, h5.1, h6.1⟩, h1, h2.2, h3.2, h4.2, h5.2, h6.2⟩, rfl, rfl, rfl, rfl, rfl, rfl, rfl, rfl⟩
            · exact .inr ⟨fun h => h6 ⟨h.1.2.2.2.2, h.2.2.2.2.2.2⟩, by rw [← e6]; exact tk_no l 16 2 58 h6⟩
          · have f5 : t5.2.2 = false := by rw [← e5]; exact tk_no l 13 2 58 h5
            exact .inr ⟨fun h => h5 ⟨h.1.2.2.2.1, h.2.2.2.2.2.1⟩, by rw [← e6]; exact tk_stays _ _ _ f5⟩
        · have f4 : t4.2.2 = false := by rw [← e4]; exact tk_no l 10 2 84 h4
          have f5 : t5.2.2 = false := by rw [← e5]; exact tk_stays _ _ _ f4
          exact .inr ⟨fun h => h4 ⟨h.1.2.2.1, h.2.2.2.2.1⟩, by rw [← e6]; exact tk_stays _ _ _ f5⟩
      · have f3 : t3.2.2 = false := by rw [← e3]; exact tk_no l 7 2 45 h3
        have f4 : t4.2.2 = false := by rw [← e4]; exact tk_stays _ _ _ f3
        have f5 : t5.2.2 = false := by rw [← e5]; exact tk_stays _ _ _ f4
        exact .inr ⟨fun h => h3 ⟨h.1.2.1, h.2.2.2.1⟩, by rw [← e6]; exact tk_stays _ _ _ f5⟩
    · have f2 : t2.2.2 = false := by rw [← e2]; exact tk_no l 4 2 45 h2
      have f3 : t3.2.2 = false := by rw [← e3]; exact tk_stays _ _ _ f2
      have f4 : t4.2.2 = false := by rw [← e4]; exact tk_stays _ _ _ f3
      have f5 : t5.2.2 = false := by rw [← e5]; exact tk_stays _ _ _ f4
      exact .inr ⟨fun h => h2 ⟨h.1.1, h.2.2.1⟩, by rw [← e6]; exact tk_stays _ _ _ f5⟩
  · have f1 : t1.2.2 = false := by rw [← e1]; exact tk_no0 l 4 h1
    have f2 : t2.2.2 = false := by rw [← e2]; exact tk_stays _ _ _ f1
    have f3 : t3.2.2 = false := by rw [← e3]; exact tk_stays _ _ _ f2
    have f4 : t4.2.2 = false := by rw [← e4]; exact tk_stays _ _ _ f3
    have f5 : t5.2.2 = false := by rw [← e5]; exact tk_stays _ _ _ f4
    exact .inr ⟨fun h => h1 h.2.1, by rw [← e6]; exact tk_stays _ _ _ f5⟩

/-! ### the figures behind a point, and the zone -/
theorem figs_pos_one (l : List UInt8) : figs l 1 = 1 ↔ figs l 6 ≠ 0 := by
  cases l with
  | nil => simp [figs]
  | cons c t => simp only [figs]; split <;> simp
theorem figs_self : ∀ (l : List UInt8) (n : Nat), figs l (figs l n) = figs l n
  | l, 0 => by cases l <;> simp [figs]
  | [], _ + 1 => by simp [figs]
  | c :: l, n + 1 => by
    by_cases h : isDig c = true
    · simp only [figs, if_pos h]
      rw [figs_self l n]
    · simp only [figs, if_neg h]
theorem nano_agree (l : List UInt8) :
    (∃ n p, nanoR l = some (n, p) ∧ nanoL (l.drop 19) = (n, l.drop p, true)) ∨ (nanoR l = none ∧ (nanoL (l.drop 19)).2.2 = false) := by
  unfold nanoR nanoL
  rw [hasPrefix_at]
  by_cases hp : isAt l 19 46 = true
  · rw [if_pos hp, if_pos hp, trim_at l 19 46 hp]
    show _ ∨ _
    by_cases h0 : figs (l.drop 20) 6 = 0
    · rw [if_pos h0]
      refine .inr ⟨rfl, ?_⟩
      simp only [h0]
      have : (tk [46] (max 1 0) (l.drop 19) true).2.2 = false := tk_no l 19 1 46 (by
        rintro ⟨_, h⟩
        have := (numAt_ok ..).1 h
        exact (figs_pos_one _).1 this h0)
      exact this
    · rw [if_neg h0]
      refine .inl ⟨_, _, rfl, ?_⟩
      have e : max 1 (figs (l.drop 20) 6) = figs (l.drop 20) 6 := by omega
      simp only [e]
      have hs := figs_self (l.drop 20) 6
      have hn : 0 ≤ numAt l (19 + 1) (figs (l.drop 20) 6) := (numAt_ok ..).2 hs
      rw [tk_yes l 19 _ 46 hp hn]
      unfold nanoN numAt
      rw [if_pos hs]
  · rw [if_neg hp, if_neg hp]
    exact .inl ⟨_, _, rfl, rfl⟩
theorem numAt_two (l : List UInt8) (p : Nat) : numAt l p 2 ≤ 99 := by
  unfold numAt
  split
  · rename_i h
    have := (numOf_bd _ ((figs_iff _ _).1 h).2).2
    have hl : ((l.drop p).take 2).length = 2 := by rw [List.length_take]; have := ((figs_iff _ _).1 h).1; omega
    rw [hl] at this
    omega
  · omega
theorem zone_agree (l : List UInt8) (p : Nat) (ok : Int → Prop) (hok : ∀ z, ok z → -1439 ≤ z ∧ z ≤ 1439) :
    (∃ z q, zoneR l p = some (z, q) ∧ (zoneL (l.drop p) true).2.2.2 = true ∧ -59 ≤ (zoneL (l.drop p) true).2.1 ∧ (zoneL (l.drop p) true).2.1 ≤ 59 ∧ (zoneL (l.drop p) true).1 * 60 + (zoneL (l.drop p) true).2.1 = z ∧ (zoneL (l.drop p) true).2.2.1 = l.drop q) ∨
    (zoneR l p = none ∧ ¬ ((zoneL (l.drop p) true).2.2.2 = true ∧ (-59 ≤ (zoneL (l.drop p) true).2.1 ∧ (zoneL (l.drop p) true).2.1 ≤ 59) ∧ ok ((zoneL (l.drop p) true).1 * 60 + (zoneL (l.drop p) true).2.1))) := by
  unfold zoneR zoneL
  rw [hasPrefix_at, hasPrefix_at]
  have b1 := numAt_two l (p + 1)
  have b2 := numAt_two l (p + 4)
  by_cases hz : isAt l p 90 = true
  · rw [if_pos hz, if_pos hz]
    have e : tk [90] 0 (l.drop p) true = (numAt l (p + 1) 0, l.drop (p + 1 + 0), true) := tk_yes l p 0 90 hz ((numAt_ok ..).2 (by unfold figs; rfl))
    rw [e]
    exact .inl ⟨_, _, rfl, rfl, by show (-59 : Int) ≤ 0; omega, by show (0 : Int) ≤ 59; omega, rfl, rfl⟩
  · rw [if_neg hz, if_neg hz]
    by_cases hm : isAt l p 45 = true
    · rw [if_pos hm]
      simp only [hm, Bool.or_true, Bool.true_and, if_true]
      by_cases h1 : 0 ≤ numAt l (p + 1) 2
      · rw [tk_yes l p 2 45 hm h1]
        simp only
        by_cases h2 : isAt l (p + 3) 58 = true ∧ 0 ≤ numAt l (p + 4) 2
        · rw [tk_yes l (p + 1 + 2) 2 58 h2.1 h2.2]
          simp only [h2.1, Bool.true_and, h1, h2.2, decide_true]
          split
          · rename_i hc
            simp only [Bool.and_eq_true, decide_eq_true_iff] at hc
            have e4 : numAt l (p + 1 + 2 + 1) 2 = numAt l (p + 4) 2 := rfl
            exact .inl ⟨_, _, rfl, trivial, by omega, by omega, by omega, rfl⟩
          · rename_i hc
            simp only [Bool.and_eq_true, decide_eq_true_iff] at hc
            refine .inr ⟨rfl, ?_⟩
            rintro ⟨_, _, hk⟩
            have := hok _ hk
            have : numAt l (p + 1 + 2 + 1) 2 = numAt l (p + 4) 2 := rfl
            omega
        · have hn := tk_no l (p + 1 + 2) 2 58 h2
          rw [if_neg (by
            simp only [Bool.and_eq_true, decide_eq_true_iff]
            rintro ⟨⟨a, _⟩, b, _⟩
            exact h2 ⟨a, b⟩)]
          refine .inr ⟨rfl, ?_⟩
          rintro ⟨hx, _⟩
          rw [hn] at hx
          cases hx
      · have hn := tk_no l p 2 45 (fun h => h1 h.2)
        rw [if_neg (by simp only [Bool.and_eq_true, decide_eq_true_iff]; rintro ⟨⟨_, b, _⟩, _⟩; exact h1 b)]
        refine .inr ⟨rfl, ?_⟩
        rintro ⟨hx, _⟩
        rw [tk_stays [58] 2 _ hn] at hx
        cases hx
    · rw [if_neg hm]
      simp only [hm, Bool.or_false, Bool.false_eq_true, if_false]
      by_cases h1 : isAt l p 43 = true ∧ 0 ≤ numAt l (p + 1) 2
      · rw [tk_yes l p 2 43 h1.1 h1.2]
        simp only
        by_cases h2 : isAt l (p + 3) 58 = true ∧ 0 ≤ numAt l (p + 4) 2
        · rw [tk_yes l (p + 1 + 2) 2 58 h2.1 h2.2]
          simp only [h1.1, h2.1, Bool.true_and, h1.2, h2.2, decide_true]
          split
          · rename_i hc
            simp only [Bool.and_eq_true, decide_eq_true_iff] at hc
            have e4 : numAt l (p + 1 + 2 + 1) 2 = numAt l (p + 4) 2 := rfl
            exact .inl ⟨_, _, rfl, trivial, by omega, by omega, by omega, rfl⟩
          · rename_i hc
            simp only [Bool.and_eq_true, decide_eq_true_iff] at hc
            refine .inr ⟨rfl, ?_⟩
            rintro ⟨_, _, hk⟩
            have := hok _ hk
            have : numAt l (p + 1 + 2 + 1) 2 = numAt l (p + 4) 2 := rfl
            omega
        · have hn := tk_no l (p + 1 + 2) 2 58 h2
          rw [if_neg (by
            simp only [Bool.and_eq_true, decide_eq_true_iff]
            rintro ⟨⟨⟨_, a⟩, _⟩, b, _⟩
            exact h2 ⟨a, b⟩)]
          refine .inr ⟨rfl, ?_⟩
          rintro ⟨hx, _⟩
          rw [hn] at hx
          cases hx
      · have hn := tk_no l p 2 43 h1
        rw [if_neg (by simp only [Bool.and_eq_true, decide_eq_true_iff]; rintro ⟨⟨⟨a, _⟩, b, _⟩, _⟩; exact h1 ⟨a, b⟩)]
        refine .inr ⟨rfl, ?_⟩
        rintro ⟨hx, _⟩
        rw [tk_stays [58] 2 _ hn] at hx
        cases hx
theorem nanoL_false_zone (r : List UInt8) : (zoneL r false).2.2.2 = false := by
  unfold zoneL
  split
  · simp [tk_false]
  · split <;> simp [tk_false]
/-- What cal.Parse tells is what the document's own Parse does. -/
theorem parsed_ref {l t : List UInt8} {y m d h i s n z err : Int} (hp : ParsedAs l y m d h i s n z t err) : rp l = (y, m, d, h, i, s, n, z, t, err) := by
  obtain ⟨t1, t2, t3, t4, t5, t6, e1, e2, e3, e4, e5, e6, hc⟩ := hp
  rcases six_takes l t1 t2 t3 t4 t5 t6 e1 e2 e3 e4 e5 e6 with ⟨h6, q1, q2, q3, q4, q5, q6, q7, q8⟩ | ⟨h6, q8⟩
  · have hm : marksR l = true := by
      unfold sixR at h6
      rw [Bool.and_eq_true] at h6
      exact h6.1
    rcases hc with ⟨hf, _⟩ | ⟨_, N, Z, eN, eZ, hc⟩
    · rw [q8] at hf; cases hf
    · unfold rp
      rw [if_pos hm]
      rw [q7] at eN
      rcases nano_agree l with ⟨n', p, en, el⟩ | ⟨en, el⟩
      · rw [el] at eN
        subst eN
        rw [en]
        simp only at eZ hc ⊢
        rw [q1, q2, q3, q4, q5, q6] at hc
        subst eZ
        rcases zone_agree l p (fun z => rightB (numAt l 0 4) (numAt l 5 2) (numAt l 8 2) (numAt l 11 2) (numAt l 14 2) (numAt l 17 2) n' z = true) (fun z hz => ((right_iff ..).1 hz).2.2.2.2.2.2.2) with ⟨z', q, ez, c1, c2, c3, c4, c5⟩ | ⟨ez, hno⟩
        · rw [ez]
          simp only
          rw [c4, c5] at hc
          rcases hc with ⟨⟨_, _, hr⟩, rfl, rfl, rfl, rfl, rfl, rfl, rfl, rfl, rfl, rfl⟩ | ⟨hno, rfl, rfl, rfl, rfl, rfl, rfl, rfl, rfl, rfl, rfl⟩
          · rw [if_pos hr]
          · rw [if_neg (fun hr => hno ⟨c1, ⟨c2, c3⟩, hr⟩)]
            rfl
        · rw [ez]
          simp only
          rcases hc with ⟨hyes, _⟩ | ⟨_, rfl, rfl, rfl, rfl, rfl, rfl, rfl, rfl, rfl, rfl⟩
          · exact absurd hyes hno
          · rfl
      · rw [en]
        simp only
        have hN : N.2.2 = false := by rw [← eN]; exact el
        rw [hN] at eZ
        have hZ : Z.2.2.2 = false := by rw [← eZ]; exact nanoL_false_zone _
        rcases hc with ⟨⟨hx, _⟩, _⟩ | ⟨_, rfl, rfl, rfl, rfl, rfl, rfl, rfl, rfl, rfl, rfl⟩
        · rw [hZ] at hx; cases hx
        · rfl
  · rw [rp_wrong l h6]
    rcases hc with ⟨_, rfl, rfl, rfl, rfl, rfl, rfl, rfl, rfl, rfl, rfl⟩ | ⟨hf, _⟩
    · rfl
    · rw [q8] at hf; cases hf
end Go.Proofs.YtameffdjjcpbkaaDoor
