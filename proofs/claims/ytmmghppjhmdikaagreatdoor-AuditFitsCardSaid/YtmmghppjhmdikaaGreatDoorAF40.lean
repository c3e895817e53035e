/- Valid UTF-8 as the document reads it, byte by byte, is what the library's ValidString tells: lists alone. -/
import Derived.Test.YtmmghppjhmdikaaGreatDoorAF30
import Derived.Lib.ValidLaws
namespace Go.Proofs.YtmmghppjhmdikaaGreatDoor
open Go.Lib

def u8tail : Nat → List UInt8 → Nat → Option Nat
  | 0, _, v => some v
  | _ + 1, [], _ => none
  | n + 1, d :: r, v => if 128 ≤ d.toNat ∧ d.toNat ≤ 191 then u8tail n r (64 * v + d.toNat - 128) else none
def u8ok (low v : Nat) : Bool := !(decide (v < low) || (decide (1114111 < v) || (decide (55296 ≤ v) && decide (v ≤ 57343))))
def u8rest (n low : Nat) (r : List UInt8) : Option Nat → Bool
  | none => false
  | some v => u8ok low v && validD (r.drop n)
/-- A lead byte: how many follow, the least value, what it adds. -/
def U8Lead (c n low v : Nat) : Prop := (194 ≤ c ∧ c ≤ 223 ∧ n = 1 ∧ low = 128 ∧ v + 192 = c) ∨ (224 ≤ c ∧ c ≤ 239 ∧ n = 2 ∧ low = 2048 ∧ v + 224 = c) ∨ (240 ≤ c ∧ c ≤ 244 ∧ n = 3 ∧ low = 65536 ∧ v + 240 = c)
theorem u8tail_short : ∀ (n : Nat) (r : List UInt8) (v : Nat), r.length < n → u8tail n r v = none
  | 0, _, _, h => absurd h (Nat.not_lt_zero _)
  | _ + 1, [], _, _ => rfl
  | n + 1, d :: r, v, h => by
    rw [u8tail]
    split
    · exact u8tail_short n r _ (by simpa using h)
    · rfl
theorem u8tail_ok {n : Nat} {r : List UInt8} {v : Nat} {d : UInt8} (h : r[0]? = some d) (hd : 128 ≤ d.toNat ∧ d.toNat ≤ 191) : u8tail (n + 1) r v = u8tail n (r.drop 1) (64 * v + d.toNat - 128) := by
  cases r with
  | nil => cases h
  | cons x r => cases h; rw [u8tail, if_pos hd]; rfl
theorem u8tail_bad {n : Nat} {r : List UInt8} {v : Nat} {d : UInt8} (h : r[0]? = some d) (hd : ¬ (128 ≤ d.toNat ∧ d.toNat ≤ 191)) : u8tail (n + 1) r v = none := by
  cases r with
  | nil => cases h
  | cons x r => cases h; rw [u8tail, if_neg hd]
theorem valid_bad (c : UInt8) (r : List UInt8) (h : (128 ≤ c.toNat ∧ c.toNat < 194) ∨ 245 ≤ c.toNat) : validD (c :: r) = false := by
  have hc := c.toNat_lt
  rw [validD_lead (c :: r) (by simp) (by simp; omega)]
  have e : firstT c.toNat = 241 := by unfold firstT; (repeat' split) <;> first | rfl | omega
  simp [e, checkN]
set_option maxHeartbeats 4000000 in
set_option maxRecDepth 100000 in
theorem valid_lead (c : UInt8) (r : List UInt8) (n low v : Nat) (h : U8Lead c.toNat n low v) : validD (c :: r) = u8rest n low r (u8tail n r v) := by
  have hc := c.toNat_lt
  have h128 : 128 ≤ c.toNat := by unfold U8Lead at h; omega
  rw [validD_lead (c :: r) (by simp) (by simpa using h128)]
  simp only [List.getD_cons_zero, List.getD_cons_succ, List.length_cons]
  generalize c.toNat = C at *
  rcases h with ⟨h1, h2, rfl, rfl, h3⟩ | ⟨h1, h2, rfl, rfl, h3⟩ | ⟨h1, h2, rfl, rfl, h3⟩
  · have e : firstT C = 2 := by unfold firstT; (repeat' split) <;> first | rfl | omega
    rw [e]
    match r with
    | [] => simp [checkN, u8tail, u8rest]
    | d1 :: t =>
      have := d1.toNat_lt
      simp only [List.getD_cons_zero, List.length_cons, checkN, accLo, accHi, u8tail]
      by_cases hd : 128 ≤ d1.toNat ∧ d1.toNat ≤ 191
      · have hu : u8ok 128 (64 * v + d1.toNat - 128) = true := by simp [u8ok]; omega
        rw [if_pos hd, u8rest, hu]
        simp
        rw [if_neg (by omega)]
        rfl
      · rw [if_neg hd, u8rest]
        simp
        rw [if_pos (by omega)]
  · match r with
    | [] =>
      rcases (show C = 224 ∨ C = 237 ∨ (C ≠ 224 ∧ C ≠ 237) by omega) with rfl | rfl | ⟨n1, n2⟩
      · simp [firstT, checkN, u8tail, u8rest]
      · simp [firstT, checkN, u8tail, u8rest]
      · have e : firstT C = 3 := by unfold firstT; (repeat' split) <;> first | rfl | omega
        rw [e]; simp [checkN, u8tail, u8rest]
    | [d1] =>
      have hn : u8tail 2 [d1] v = none := u8tail_short _ _ _ (by simp)
      rw [hn]
      rcases (show C = 224 ∨ C = 237 ∨ (C ≠ 224 ∧ C ≠ 237) by omega) with rfl | rfl | ⟨n1, n2⟩
      · simp [firstT, checkN, u8rest]
      · simp [firstT, checkN, u8rest]
      · have e : firstT C = 3 := by unfold firstT; (repeat' split) <;> first | rfl | omega
        rw [e]; simp [checkN, u8rest]
    | d1 :: d2 :: t =>
      have l1 := d1.toNat_lt
      have l2 := d2.toNat_lt
      have hk : ∀ lo hi, checkN (t.length + 1 + 1 + 1) d1.toNat d2.toNat ((d1 :: d2 :: t).getD 2 0).toNat 3 lo hi = if d1.toNat < lo ∨ hi < d1.toNat ∨ d2.toNat < 128 ∨ 191 < d2.toNat then none else some 3 := by
        intro lo hi
        have hq : (t.length + 1 + 1 + 1 < 3) = False := by simp
        simp [checkN, hq]
      have hu : u8rest 2 2048 (d1 :: d2 :: t) (u8tail 2 (d1 :: d2 :: t) v) = if (128 ≤ d1.toNat ∧ d1.toNat ≤ 191) ∧ (128 ≤ d2.toNat ∧ d2.toNat ≤ 191) then u8ok 2048 (64 * (64 * v + d1.toNat - 128) + d2.toNat - 128) && validD t else false := by
        rw [u8tail, u8tail, u8tail]
        by_cases q1 : 128 ≤ d1.toNat ∧ d1.toNat ≤ 191
        · by_cases q2 : 128 ≤ d2.toNat ∧ d2.toNat ≤ 191
          · rw [if_pos q1, if_pos q2, if_pos ⟨q1, q2⟩]; rfl
          · rw [if_pos q1, if_neg q2, if_neg (fun h => q2 h.2)]; rfl
        · rw [if_neg q1, if_neg (fun h => q1 h.1)]; rfl
      rw [hu]
      simp only [List.getD_cons_zero, List.getD_cons_succ, List.length_cons] at hk ⊢
      generalize d1.toNat = D1 at *
      generalize d2.toNat = D2 at *
      have fin : ∀ lo hi, firstT C % 8 = 3 → accLo (firstT C / 16) = lo → accHi (firstT C / 16) = hi →
          ((lo ≤ D1 ∧ D1 ≤ hi ∧ 128 ≤ D2 ∧ D2 ≤ 191) ↔ ((128 ≤ D1 ∧ D1 ≤ 191) ∧ (128 ≤ D2 ∧ D2 ≤ 191)) ∧ u8ok 2048 (64 * (64 * v + D1 - 128) + D2 - 128) = true) →
          (match checkN (t.length + 1 + 1 + 1) D1 D2 (t.getD 0 0).toNat (firstT C % 8) (accLo (firstT C / 16)) (accHi (firstT C / 16)) with
            | none => false
            | some k => validD ((c :: d1 :: d2 :: t).drop k)) = if (128 ≤ D1 ∧ D1 ≤ 191) ∧ (128 ≤ D2 ∧ D2 ≤ 191) then u8ok 2048 (64 * (64 * v + D1 - 128) + D2 - 128) && validD t else false := by
        intro lo hi e1 e2 e3 hiff
        rw [e1, e2, e3, hk]
        by_cases hx : lo ≤ D1 ∧ D1 ≤ hi ∧ 128 ≤ D2 ∧ D2 ≤ 191
        · have hy := hiff.1 hx
          rw [if_neg (by omega), if_pos hy.1, hy.2]
          simp
        · rw [if_pos (by omega)]
          by_cases hz : (128 ≤ D1 ∧ D1 ≤ 191) ∧ (128 ≤ D2 ∧ D2 ≤ 191)
          · have hw : u8ok 2048 (64 * (64 * v + D1 - 128) + D2 - 128) = false := by
              cases hq : u8ok 2048 (64 * (64 * v + D1 - 128) + D2 - 128) with
              | false => rfl
              | true => exact absurd (hiff.2 ⟨hz, hq⟩) hx
            rw [if_pos hz, hw]; rfl
          · rw [if_neg hz]
      rcases (show C = 224 ∨ C = 237 ∨ (C ≠ 224 ∧ C ≠ 237) by omega) with rfl | rfl | ⟨n1, n2⟩
      · exact fin 160 191 (by decide) (by decide) (by decide) (by simp [u8ok]; omega)
      · exact fin 128 159 (by decide) (by decide) (by decide) (by simp [u8ok]; omega)
      · have e : firstT C = 3 := by unfold firstT; (repeat' split) <;> first | rfl | omega
        exact fin 128 191 (by rw [e]) (by rw [e]; rfl) (by rw [e]; rfl) (by simp [u8ok]; omega)
  · by_cases hl : r.length < 3
    · have hn : u8tail 3 r v = none := u8tail_short _ _ _ hl
      rw [hn]
      have e : firstT C % 8 = 4 := by
        rcases (show C = 240 ∨ C = 244 ∨ (C ≠ 240 ∧ C ≠ 244) by omega) with rfl | rfl | ⟨n1, n2⟩
        · decide
        · decide
        · unfold firstT; (repeat' split) <;> first | rfl | omega
      rw [e]
      simp only [checkN, u8rest]
      rw [if_neg (by decide), if_neg (by decide), if_pos (by decide), if_pos (.inl (by omega))]
    · match r, hl with
      | [], hl => exact absurd (by simp) hl
      | [_], hl => exact absurd (by simp) hl
      | [_, _], hl => exact absurd (by simp) hl
      | d1 :: d2 :: d3 :: t, hl =>
        have l1 := d1.toNat_lt
        have l2 := d2.toNat_lt
        have l3 := d3.toNat_lt
        clear hl
        have hk : ∀ lo hi, checkN (t.length + 1 + 1 + 1 + 1) d1.toNat d2.toNat d3.toNat 4 lo hi = if d1.toNat < lo ∨ hi < d1.toNat ∨ d2.toNat < 128 ∨ 191 < d2.toNat ∨ d3.toNat < 128 ∨ 191 < d3.toNat then none else some 4 := by
          intro lo hi
          have hq : (t.length + 1 + 1 + 1 + 1 < 4) = False := by simp
          simp [checkN, hq]
        have hu : u8rest 3 65536 (d1 :: d2 :: d3 :: t) (u8tail 3 (d1 :: d2 :: d3 :: t) v) = if (128 ≤ d1.toNat ∧ d1.toNat ≤ 191) ∧ (128 ≤ d2.toNat ∧ d2.toNat ≤ 191) ∧ (128 ≤ d3.toNat ∧ d3.toNat ≤ 191) then u8ok 65536 (64 * (64 * (64 * v + d1.toNat - 128) + d2.toNat - 128) + d3.toNat - 128) && validD t else false := by
          rw [u8tail, u8tail, u8tail, u8tail]
          by_cases q1 : 128 ≤ d1.toNat ∧ d1.toNat ≤ 191
          · by_cases q2 : 128 ≤ d2.toNat ∧ d2.toNat ≤ 191
            · by_cases q3 : 128 ≤ d3.toNat ∧ d3.toNat ≤ 191
              · rw [if_pos q1, if_pos q2, if_pos q3, if_pos ⟨q1, q2, q3⟩]; rfl
              · rw [if_pos q1, if_pos q2, if_neg q3, if_neg (fun h => q3 h.2.2)]; rfl
            · rw [if_pos q1, if_neg q2, if_neg (fun h => q2 h.2.1)]; rfl
          · rw [if_neg q1, if_neg (fun h => q1 h.1)]; rfl
        rw [hu]
        simp only [List.getD_cons_zero, List.getD_cons_succ, List.length_cons] at hk ⊢
        generalize d1.toNat = D1 at *
        generalize d2.toNat = D2 at *
        generalize d3.toNat = D3 at *
        have fin : ∀ lo hi, firstT C % 8 = 4 → accLo (firstT C / 16) = lo → accHi (firstT C / 16) = hi →
            ((lo ≤ D1 ∧ D1 ≤ hi ∧ 128 ≤ D2 ∧ D2 ≤ 191 ∧ 128 ≤ D3 ∧ D3 ≤ 191) ↔ ((128 ≤ D1 ∧ D1 ≤ 191) ∧ (128 ≤ D2 ∧ D2 ≤ 191) ∧ (128 ≤ D3 ∧ D3 ≤ 191)) ∧ u8ok 65536 (64 * (64 * (64 * v + D1 - 128) + D2 - 128) + D3 - 128) = true) →
            (match checkN (t.length + 1 + 1 + 1 + 1) D1 D2 D3 (firstT C % 8) (accLo (firstT C / 16)) (accHi (firstT C / 16)) with
              | none => false
              | some k => validD ((c :: d1 :: d2 :: d3 :: t).drop k)) = if (128 ≤ D1 ∧ D1 ≤ 191) ∧ (128 ≤ D2 ∧ D2 ≤ 191) ∧ (128 ≤ D3 ∧ D3 ≤ 191) then u8ok 65536 (64 * (64 * (64 * v + D1 - 128) + D2 - 128) + D3 - 128) && validD t else false := by
          intro lo hi e1 e2 e3 hiff
          rw [e1, e2, e3, hk]
          by_cases hx : lo ≤ D1 ∧ D1 ≤ hi ∧ 128 ≤ D2 ∧ D2 ≤ 191 ∧ 128 ≤ D3 ∧ D3 ≤ 191
          · have hy := hiff.1 hx
            rw [if_neg (by omega), if_pos hy.1, hy.2]
            simp
          · rw [if_pos (by omega)]
            by_cases hz : (128 ≤ D1 ∧ D1 ≤ 191) ∧ (128 ≤ D2 ∧ D2 ≤ 191) ∧ (128 ≤ D3 ∧ D3 ≤ 191)
            · have hw : u8ok 65536 (64 * (64 * (64 * v + D1 - 128) + D2 - 128) + D3 - 128) = false := by
                cases hq : u8ok 65536 (64 * (64 * (64 * v + D1 - 128) + D2 - 128) + D3 - 128) with
                | false => rfl
                | true => exact absurd (hiff.2 ⟨hz, hq⟩) hx
              rw [if_pos hz, hw]; rfl
            · rw [if_neg hz]
        rcases (show C = 240 ∨ C = 244 ∨ (C ≠ 240 ∧ C ≠ 244) by omega) with rfl | rfl | ⟨n1, n2⟩
        · exact fin 144 191 (by decide) (by decide) (by decide) (by simp [u8ok]; omega)
        · exact fin 128 143 (by decide) (by decide) (by decide) (by simp [u8ok]; omega)
        · have e : firstT C = 4 := by unfold firstT; (repeat' split) <;> first | rfl | omega
          exact fin 128 191 (by rw [e]) (by rw [e]; rfl) (by rw [e]; rfl) (by simp [u8ok]; omega)
end Go.Proofs.YtmmghppjhmdikaaGreatDoor
