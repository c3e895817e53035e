/- What Parse reads of a text, as lists of bytes. No program is spoken of. -/
import Derived.Test.YtnaijahhogndjaaGreatDoorCalFigs
namespace Go.Proofs.YtnaijahhogndjaaGreatDoor.Cal
open Go

abbrev T3 := Int × List UInt8 × Bool
/-- The figures behind a point, if there is one. -/
def nanoL (r : List UInt8) : T3 :=
  if Lib.hasPrefix r [46] = true then
    let k := max 1 (figs (Lib.trimPrefix r [46]) 6)
    let t := tk [46] k r true
    (t.1 * ((10 ^ (9 - k) : Nat) : Int), t.2.1, t.2.2)
  else (0, r, true)
/-- The zone's hours and minutes. -/
def zoneL (r : List UInt8) (f : Bool) : Int × Int × List UInt8 × Bool :=
  if Lib.hasPrefix r [90] = true then (0, 0, (tk [90] 0 r f).2.1, (tk [90] 0 r f).2.2)
  else if Lib.hasPrefix r [45] = true then
    let t := tk [45] 2 r f
    let u := tk [58] 2 t.2.1 t.2.2
    (-t.1, -u.1, u.2.1, u.2.2)
  else
    let t := tk [43] 2 r f
    let u := tk [58] 2 t.2.1 t.2.2
    (t.1, u.1, u.2.1, u.2.2)
/-- What Parse tells of a text: the date's numbers and what is left, or nothing. -/
def ParsedAs (l : List UInt8) (y m d h i s n z : Int) (t : List UInt8) (err : Int) : Prop :=
  ∃ t1 t2 t3 t4 t5 t6 : T3, tk [] 4 l true = t1 ∧ tk [45] 2 t1.2.1 t1.2.2 = t2 ∧ tk [45] 2 t2.2.1 t2.2.2 = t3 ∧ tk [84] 2 t3.2.1 t3.2.2 = t4 ∧ tk [58] 2 t4.2.1 t4.2.2 = t5 ∧ tk [58] 2 t5.2.1 t5.2.2 = t6 ∧
    ((t6.2.2 = false ∧ y = 0 ∧ m = 0 ∧ d = 0 ∧ h = 0 ∧ i = 0 ∧ s = 0 ∧ n = 0 ∧ z = 0 ∧ t = [] ∧ err = 3) ∨
     (t6.2.2 = true ∧ ∃ (N : T3) (Z : Int × Int × List UInt8 × Bool), nanoL t6.2.1 = N ∧ zoneL N.2.1 N.2.2 = Z ∧
        (((Z.2.2.2 = true ∧ (-59 ≤ Z.2.1 ∧ Z.2.1 ≤ 59) ∧ rightB t1.1 t2.1 t3.1 t4.1 t5.1 t6.1 N.1 (Z.1 * 60 + Z.2.1) = true) ∧
            y = t1.1 ∧ m = t2.1 ∧ d = t3.1 ∧ h = t4.1 ∧ i = t5.1 ∧ s = t6.1 ∧ n = N.1 ∧ z = Z.1 * 60 + Z.2.1 ∧ t = Z.2.2.1 ∧ err = 0) ∨
         (¬ (Z.2.2.2 = true ∧ (-59 ≤ Z.2.1 ∧ Z.2.1 ≤ 59) ∧ rightB t1.1 t2.1 t3.1 t4.1 t5.1 t6.1 N.1 (Z.1 * 60 + Z.2.1) = true) ∧
            y = 0 ∧ m = 0 ∧ d = 0 ∧ h = 0 ∧ i = 0 ∧ s = 0 ∧ n = 0 ∧ z = 0 ∧ t = [] ∧ err = 3))))

theorem nanoL_suffix (r : List UInt8) : ∃ p, r = p ++ (nanoL r).2.1 := by
  unfold nanoL
  split
  · exact tk_suffix _ _ _ _
  · exact ⟨[], rfl⟩
theorem suffix_trans {a b c : List UInt8} (h1 : ∃ p, a = p ++ b) (h2 : ∃ p, b = p ++ c) : ∃ p, a = p ++ c := by
  obtain ⟨p, rfl⟩ := h1
  obtain ⟨q, rfl⟩ := h2
  exact ⟨p ++ q, by rw [List.append_assoc]⟩
theorem zoneL_suffix (r : List UInt8) (f : Bool) : ∃ p, r = p ++ (zoneL r f).2.2.1 := by
  unfold zoneL
  split
  · exact tk_suffix _ _ _ _
  · split
    · exact suffix_trans (tk_suffix _ _ _ _) (tk_suffix _ _ _ _)
    · exact suffix_trans (tk_suffix _ _ _ _) (tk_suffix _ _ _ _)
theorem tk_kept {sg : List UInt8} {k : Nat} {r : List UInt8} {f : Bool} (h : (tk sg k r f).2.2 = true) : f = true := by
  cases f with
  | true => rfl
  | false => rw [tk_false] at h; cases h
/-- What is told is right, and what is left is the text's end, and shorter than it. -/
theorem parsed_right {l t : List UInt8} {y m d h i s n z err : Int} (hp : ParsedAs l y m d h i s n z t err) (h0 : err = 0) : rightB y m d h i s n z = true ∧ t.length < l.length ∧ ∃ p, l = p ++ t := by
  obtain ⟨t1, t2, t3, t4, t5, t6, e1, e2, e3, e4, e5, e6, hc⟩ := hp
  rcases hc with ⟨_, _, _, _, _, _, _, _, _, _, he⟩ | ⟨hf6, N, Z, eN, eZ, hc⟩
  · rw [h0] at he; cases he
  · rcases hc with ⟨⟨_, _, hr⟩, rfl, rfl, rfl, rfl, rfl, rfl, rfl, rfl, rfl, _⟩ | ⟨_, _, _, _, _, _, _, _, _, _, he⟩
    · have f5 : t5.2.2 = true := by rw [← e6] at hf6; exact tk_kept hf6
      have f4 : t4.2.2 = true := by rw [← e5] at f5; exact tk_kept f5
      have f3 : t3.2.2 = true := by rw [← e4] at f4; exact tk_kept f4
      have f2 : t2.2.2 = true := by rw [← e3] at f3; exact tk_kept f3
      have f1 : t1.2.2 = true := by rw [← e2] at f2; exact tk_kept f2
      have hlen : t1.2.1.length < l.length := by rw [← e1]; exact tk_shorter _ _ _ _ (by omega) (by rw [e1]; exact f1)
      have s1 : ∃ p, l = p ++ t1.2.1 := by rw [← e1]; exact tk_suffix _ _ _ _
      have s2 : ∃ p, t1.2.1 = p ++ t2.2.1 := by rw [← e2]; exact tk_suffix _ _ _ _
      have s3 : ∃ p, t2.2.1 = p ++ t3.2.1 := by rw [← e3]; exact tk_suffix _ _ _ _
      have s4 : ∃ p, t3.2.1 = p ++ t4.2.1 := by rw [← e4]; exact tk_suffix _ _ _ _
      have s5 : ∃ p, t4.2.1 = p ++ t5.2.1 := by rw [← e5]; exact tk_suffix _ _ _ _
      have s6 : ∃ p, t5.2.1 = p ++ t6.2.1 := by rw [← e6]; exact tk_suffix _ _ _ _
      have s7 : ∃ p, t6.2.1 = p ++ N.2.1 := by rw [← eN]; exact nanoL_suffix _
      have s8 : ∃ p, N.2.1 = p ++ Z.2.2.1 := by rw [← eZ]; exact zoneL_suffix _ _
      have sr := suffix_trans s2 (suffix_trans s3 (suffix_trans s4 (suffix_trans s5 (suffix_trans s6 (suffix_trans s7 s8)))))
      refine ⟨hr, ?_, suffix_trans s1 sr⟩
      obtain ⟨p, hp⟩ := sr
      have := congrArg List.length hp
      rw [List.length_append] at this
      omega
    · rw [h0] at he; cases he

/-! ### a date's text -/
def zoneText (z : Int) : List UInt8 :=
  if z = 0 then [90] else (if z < 0 then [45] else [43]) ++ (pad 2 (z.natAbs / 60) ++ ([58] ++ pad 2 (z.natAbs % 60)))
def nanoText (n : Int) : List UInt8 := if n = 0 then [] else [46] ++ pad 6 (n.toNat / 1000)
def dateText (y m d h i s n z : Int) : List UInt8 :=
  pad 4 y.toNat ++ ([45] ++ (pad 2 m.toNat ++ ([45] ++ (pad 2 d.toNat ++ ([84] ++ (pad 2 h.toNat ++ ([58] ++ (pad 2 i.toNat ++ ([58] ++ (pad 2 s.toNat ++ (nanoText n ++ zoneText z)))))))))))
theorem zoneText_head (z : Int) (l : List UInt8) : Lib.hasPrefix (zoneText z ++ l) [46] = false := by
  unfold zoneText
  split
  · rfl
  · split <;> rfl
theorem zone_back (z : Int) (l : List UInt8) (h1 : -1439 ≤ z) (h2 : z ≤ 1439) :
    ∃ hh mm : Int, zoneL (zoneText z ++ l) true = (hh, mm, l, true) ∧ (-59 ≤ mm ∧ mm ≤ 59) ∧ hh * 60 + mm = z := by
  have p1 : z.natAbs / 60 < 10 ^ 2 := by omega
  have p2 : z.natAbs % 60 < 10 ^ 2 := by omega
  unfold zoneText zoneL
  by_cases h0 : z = 0
  · rw [if_pos h0, if_pos (hasPrefix_front [90] l)]
    have e := tk_pad [90] 0 0 l (by decide)
    simp only [pad, List.nil_append] at e
    rw [e]
    exact ⟨0, 0, rfl, by omega, by omega⟩
  · rw [if_neg h0]
    by_cases hn : z < 0
    · rw [if_pos hn, List.append_assoc, List.append_assoc, List.append_assoc]
      rw [if_neg (by simp [Lib.hasPrefix]), if_pos (hasPrefix_front [45] _)]
      have e1 := tk_pad [45] 2 (z.natAbs / 60) ([58] ++ (pad 2 (z.natAbs % 60) ++ l)) p1
      have e2 := tk_pad [58] 2 (z.natAbs % 60) l p2
      simp only [e1, e2]
      exact ⟨_, _, rfl, by omega, by omega⟩
    · rw [if_neg hn, List.append_assoc, List.append_assoc, List.append_assoc]
      rw [if_neg (by simp [Lib.hasPrefix]), if_neg (by simp [Lib.hasPrefix])]
      have e1 := tk_pad [43] 2 (z.natAbs / 60) ([58] ++ (pad 2 (z.natAbs % 60) ++ l)) p1
      have e2 := tk_pad [58] 2 (z.natAbs % 60) l p2
      simp only [e1, e2]
      exact ⟨_, _, rfl, by omega, by omega⟩
theorem nano_back (n z : Int) (l : List UInt8) (h1 : 0 ≤ n) (h2 : n ≤ 999999999) (h3 : n % 1000 = 0) : nanoL (nanoText n ++ (zoneText z ++ l)) = (n, zoneText z ++ l, true) := by
  unfold nanoText nanoL
  by_cases h0 : n = 0
  · rw [if_pos h0, List.nil_append, zoneText_head, h0]; rfl
  · rw [if_neg h0, List.append_assoc, if_pos (hasPrefix_front [46] _), trimPrefix_front]
    have hk : figs (pad 6 (n.toNat / 1000) ++ (zoneText z ++ l)) 6 = 6 := by have := figs_front (pad 6 (n.toNat / 1000)) (zoneText z ++ l) (pad_digs _ _); rwa [pad_length] at this
    have e := tk_pad [46] 6 (n.toNat / 1000) (zoneText z ++ l) (by omega)
    simp only [hk, show max 1 6 = 6 from rfl, e]
    have : ((10 ^ (9 - 6) : Nat) : Int) = 1000 := rfl
    rw [this, show ((n.toNat / 1000 : Nat) : Int) * 1000 = n by omega]
/-- What is printed of a right date is read as it. -/
theorem text_back {y m d h i s n z : Int} (hr : rightB y m d h i s n z = true) (l : List UInt8) {y' m' d' h' i' s' n' z' err : Int} {t : List UInt8}
    (hp : ParsedAs (dateText y m d h i s n z ++ l) y' m' d' h' i' s' n' z' t err) : err = 0 ∧ y' = y ∧ m' = m ∧ d' = d ∧ h' = h ∧ i' = i ∧ s' = s ∧ n' = n ∧ z' = z ∧ t = l := by
  obtain ⟨⟨y1, y2⟩, ⟨d1, d2⟩, ⟨h1, h2⟩, ⟨i1, i2⟩, ⟨s1, s2⟩, ⟨n1, n2⟩, n3, ⟨z1, z2⟩⟩ := (right_iff ..).1 hr
  obtain ⟨m1, m2⟩ := month_of_day d1 d2
  have ld := lenI_bd y m
  obtain ⟨t1, t2, t3, t4, t5, t6, e1, e2, e3, e4, e5, e6, hc⟩ := hp
  unfold dateText at e1
  simp only [List.append_assoc] at e1
  have q1 := tk_pad [] 4 y.toNat ([45] ++ (pad 2 m.toNat ++ ([45] ++ (pad 2 d.toNat ++ ([84] ++ (pad 2 h.toNat ++ ([58] ++ (pad 2 i.toNat ++ ([58] ++ (pad 2 s.toNat ++ (nanoText n ++ (zoneText z ++ l))))))))))))  (by omega)
  rw [List.nil_append] at q1
  rw [q1] at e1
  subst e1
  rw [tk_pad [45] 2 m.toNat _ (by omega)] at e2
  subst e2
  rw [tk_pad [45] 2 d.toNat _ (by omega)] at e3
  subst e3
  rw [tk_pad [84] 2 h.toNat _ (by omega)] at e4
  subst e4
  rw [tk_pad [58] 2 i.toNat _ (by omega)] at e5
  subst e5
  rw [tk_pad [58] 2 s.toNat _ (by omega)] at e6
  subst e6
  rcases hc with ⟨hf, _⟩ | ⟨_, N, Z, eN, eZ, hc⟩
  · cases hf
  · simp only at eN
    rw [nano_back n z l n1 n2 n3] at eN
    subst eN
    obtain ⟨hh, mm, ez, hmm, hz⟩ := zone_back z l z1 z2
    rw [ez] at eZ
    subst eZ
    have c1 : ((y.toNat : Nat) : Int) = y := by omega
    have c2 : ((m.toNat : Nat) : Int) = m := by omega
    have c3 : ((d.toNat : Nat) : Int) = d := by omega
    have c4 : ((h.toNat : Nat) : Int) = h := by omega
    have c5 : ((i.toNat : Nat) : Int) = i := by omega
    have c6 : ((s.toNat : Nat) : Int) = s := by omega
    simp only [c1, c2, c3, c4, c5, c6, hz] at hc
    rcases hc with ⟨_, rfl, rfl, rfl, rfl, rfl, rfl, rfl, rfl, rfl, he⟩ | ⟨hno, _⟩
    · exact ⟨he, rfl, rfl, rfl, rfl, rfl, rfl, rfl, rfl, rfl⟩
    · exact absurd ⟨trivial, hmm, hr⟩ hno
end Go.Proofs.YtnaijahhogndjaaGreatDoor.Cal
