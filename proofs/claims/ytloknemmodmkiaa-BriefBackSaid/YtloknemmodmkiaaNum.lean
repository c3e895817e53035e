/- A brief's text as plain bytes, the highest of each number first, and what is read of such a text: a brief's text tells it again. Conditions: a brief's numbers fit their kinds. -/
import Derived.Test.YtloknemmodmkiaaBr
import Derived.Laws.BytesArg
namespace Go.Proofs.Ytloknemmodmkiaa

/-! ### Numbers -/
/-- The k lowest bytes of n, the highest first. -/
def be : Nat → Nat → List Int
  | 0, _ => []
  | k + 1, n => ((n / 256 ^ k % 256 : Nat) : Int) :: be k n
/-- The number that bytes tell. -/
def val (l : List Int) : Nat := l.foldl (fun a x => a * 256 + x.toNat) 0
def Bytes (l : List Int) : Prop := ∀ x ∈ l, 0 ≤ x ∧ x ≤ 255

theorem be_length (k n : Nat) : (be k n).length = k := by
  induction k with
  | zero => rfl
  | succ k ih => simp [be, ih]
theorem be_bytes (k n : Nat) : Bytes (be k n) := by
  induction k with
  | zero => intro x hx; cases hx
  | succ k ih =>
    intro x hx
    rcases List.mem_cons.1 hx with rfl | h
    · omega
    · exact ih x h
theorem val_from (l : List Int) (a : Nat) : l.foldl (fun a x => a * 256 + x.toNat) a = a * 256 ^ l.length + val l := by
  induction l generalizing a with
  | nil => simp [val]
  | cons x l ih =>
    rw [List.foldl_cons, ih]
    have e : val (x :: l) = x.toNat * 256 ^ l.length + val l := by
      unfold val
      rw [List.foldl_cons, Nat.zero_mul, Nat.zero_add, ih]
      rfl
    rw [e, List.length_cons, Nat.pow_succ, Nat.add_mul, Nat.mul_assoc, Nat.mul_comm 256, Nat.add_assoc]
theorem val_cons (x : Int) (l : List Int) : val (x :: l) = x.toNat * 256 ^ l.length + val l := by
  have := val_from l (x.toNat)
  unfold val
  rw [List.foldl_cons, Nat.zero_mul, Nat.zero_add]
  exact this
theorem val_snoc (l : List Int) (x : Int) : val (l ++ [x]) = val l * 256 + x.toNat := by
  unfold val; rw [List.foldl_append]; rfl
theorem val_lt (l : List Int) (h : Bytes l) : val l < 256 ^ l.length := by
  induction l with
  | nil => simp [val]
  | cons x l ih =>
    have h1 := h x (List.mem_cons_self ..)
    have h2 := ih fun y hy => h y (List.mem_cons_of_mem _ hy)
    rw [val_cons, List.length_cons, Nat.pow_succ]
    have h3 : x.toNat ≤ 255 := by omega
    have := Nat.mul_le_mul_right (256 ^ l.length) h3
    omega
theorem val_be (k n : Nat) : val (be k n) = n % 256 ^ k := by
  induction k with
  | zero => simp [be, val, Nat.mod_one]
  | succ k ih =>
    rw [be, val_cons, ih, be_length, Nat.pow_succ]
    have e : (((n / 256 ^ k % 256 : Nat) : Int)).toNat = n / 256 ^ k % 256 := by omega
    rw [e, Nat.mod_mul, Nat.mul_comm (256 ^ k)]
    omega
theorem be_val (l : List Int) (h : Bytes l) : be l.length (val l) = l := by
  induction l with
  | nil => rfl
  | cons x l ih =>
    have h1 := h x (List.mem_cons_self ..)
    have hb : Bytes l := fun y hy => h y (List.mem_cons_of_mem _ hy)
    have h2 := val_lt l hb
    have hp : 0 < 256 ^ l.length := Nat.pow_pos (by decide)
    rw [List.length_cons, be, val_cons]
    have e1 : (x.toNat * 256 ^ l.length + val l) / 256 ^ l.length % 256 = x.toNat := by
      rw [Nat.mul_comm, Nat.mul_add_div hp, Nat.div_eq_of_lt h2, Nat.add_zero, Nat.mod_eq_of_lt (by omega)]
    have e2 : ∀ k n c, be k (c * 256 ^ k + n) = be k n := by
      intro k
      induction k with
      | zero => intro n c; rfl
      | succ k ihk =>
        intro n c
        have hk : 0 < 256 ^ k := Nat.pow_pos (by decide)
        have e3 : (c * 256 ^ (k + 1) + n) / 256 ^ k % 256 = n / 256 ^ k % 256 := by
          rw [Nat.pow_succ, Nat.mul_comm (256 ^ k) 256, ← Nat.mul_assoc, Nat.mul_comm (c * 256), Nat.mul_add_div hk]
          omega
        have e4 : c * 256 ^ (k + 1) + n = (c * 256) * 256 ^ k + n := by rw [Nat.pow_succ, Nat.mul_assoc, Nat.mul_comm (256 ^ k)]
        rw [be, be, e3, e4, ihk]
    rw [e1, e2, ih hb]
    congr 1
    omega


/-- A number, and with how many bytes it is told. -/
structure Item where
  n : Nat
  s : Nat
  hn : n < 18446744073709551616
  hs : s ≤ 8
def Item.bytes (x : Item) : List Int := be x.s x.n
def told (l : List Item) : List Int := l.flatMap Item.bytes
theorem told_snoc (l : List Item) (x : Item) : told (l ++ [x]) = told l ++ x.bytes := by simp [told]
theorem told_length (l : List Item) : (told l).length ≤ 8 * l.length := by
  induction l with
  | nil => exact Nat.le_refl _
  | cons x l ih =>
    have e : told (x :: l) = x.bytes ++ told l := rfl
    have := x.hs
    rw [e, List.length_append, List.length_cons]
    unfold Item.bytes
    rw [be_length]
    omega
theorem told_bytes (l : List Item) : Bytes (told l) := by
  intro x hx
  obtain ⟨i, _, hi⟩ := List.mem_flatMap.1 hx
  exact be_bytes _ _ x hi

/-- What is told of a brief, as numbers. -/
structure Fits64 (b : Br) : Prop where
  f1 : -9223372036854775808 ≤ b.f
  f2 : b.f ≤ 9223372036854775807
  l1 : -9223372036854775808 ≤ b.l
  l2 : b.l ≤ 9223372036854775807
def items (b : Br) (h : Fits b) : List Item :=
  [⟨(b.f % 18446744073709551616).toNat, 8, by omega, by decide⟩, ⟨(b.l % 18446744073709551616).toNat, 8, by omega, by decide⟩,
   ⟨b.g.toNat, 4, by have := h.g2; omega, by decide⟩, ⟨b.r.toNat, 4, by have := h.r2; omega, by decide⟩, ⟨b.m.toNat, 8, by have := h.m2; omega, by decide⟩, ⟨if b.k then 1 else 0, 1, by split <;> decide, by decide⟩]
def textL (b : Br) (h : Fits b) : List Int := told (items b h)
theorem textL_is (b : Br) (h : Fits b) : textL b h = be 8 (b.f % 18446744073709551616).toNat ++ (be 8 (b.l % 18446744073709551616).toNat ++ (be 4 b.g.toNat ++ (be 4 b.r.toNat ++ (be 8 b.m.toNat ++ (be 1 (if b.k then 1 else 0) ++ []))))) := rfl
theorem textL_length (b : Br) (h : Fits b) : (textL b h).length = 33 := by
  rw [textL_is]
  simp only [List.length_append, be_length, List.length_nil]

/-- What is read of 33 bytes. -/
def sgn (n : Nat) : Int := if n < 9223372036854775808 then (n : Int) else (n : Int) - 18446744073709551616
def readL (l : List Int) : Br :=
  ⟨sgn (val (l.take 8)), sgn (val ((l.drop 8).take 8)), val ((l.drop 16).take 4), val ((l.drop 20).take 4), val ((l.drop 24).take 8), decide (val ((l.drop 32).take 1) = 1)⟩
theorem sgn_mod (f : Int) (h1 : -9223372036854775808 ≤ f) (h2 : f ≤ 9223372036854775807) : sgn (f % 18446744073709551616).toNat = f := by
  unfold sgn
  split <;> omega
theorem part_at (p q r : List Int) (k j : Nat) (hp : p.length = k) (hq : q.length = j) : ((p ++ (q ++ r)).drop k).take j = q := by
  subst hp hq
  rw [List.drop_left, List.take_left]
theorem read_text (b : Br) (h : Fits b) (h' : Fits64 b) : readL (textL b h) = b := by
  have e := textL_is b h
  generalize hA : be 8 (b.f % 18446744073709551616).toNat = A at e
  generalize hB : be 8 (b.l % 18446744073709551616).toNat = B at e
  generalize hC : be 4 b.g.toNat = C at e
  generalize hD : be 4 b.r.toNat = D at e
  generalize hE : be 8 b.m.toNat = E at e
  generalize hG : be 1 (if b.k then 1 else 0) = G at e
  have lA : A.length = 8 := by rw [← hA, be_length]
  have lB : B.length = 8 := by rw [← hB, be_length]
  have lC : C.length = 4 := by rw [← hC, be_length]
  have lD : D.length = 4 := by rw [← hD, be_length]
  have lE : E.length = 8 := by rw [← hE, be_length]
  have lG : G.length = 1 := by rw [← hG, be_length]
  rw [e]
  have t0 : (A ++ (B ++ (C ++ (D ++ (E ++ (G ++ [])))))).take 8 = A := by rw [← lA, List.take_left]
  have t1 : ((A ++ (B ++ (C ++ (D ++ (E ++ (G ++ [])))))).drop 8).take 8 = B := part_at A B _ 8 8 lA lB
  have t2 : ((A ++ (B ++ (C ++ (D ++ (E ++ (G ++ [])))))).drop 16).take 4 = C := by
    rw [← List.append_assoc A]; exact part_at (A ++ B) C _ 16 4 (by rw [List.length_append, lA, lB]) lC
  have t3 : ((A ++ (B ++ (C ++ (D ++ (E ++ (G ++ [])))))).drop 20).take 4 = D := by
    rw [← List.append_assoc A, ← List.append_assoc (A ++ B)]; exact part_at ((A ++ B) ++ C) D _ 20 4 (by simp only [List.length_append, lA, lB, lC]) lD
  have t4 : ((A ++ (B ++ (C ++ (D ++ (E ++ (G ++ [])))))).drop 24).take 8 = E := by
    rw [← List.append_assoc A, ← List.append_assoc (A ++ B), ← List.append_assoc ((A ++ B) ++ C)]; exact part_at (((A ++ B) ++ C) ++ D) E _ 24 8 (by simp only [List.length_append, lA, lB, lC, lD]) lE
  have t5 : ((A ++ (B ++ (C ++ (D ++ (E ++ (G ++ [])))))).drop 32).take 1 = G := by
    rw [← List.append_assoc A, ← List.append_assoc (A ++ B), ← List.append_assoc ((A ++ B) ++ C), ← List.append_assoc (((A ++ B) ++ C) ++ D)]; exact part_at ((((A ++ B) ++ C) ++ D) ++ E) G _ 32 1 (by simp only [List.length_append, lA, lB, lC, lD, lE]) lG
  have c8 : (256 : Nat) ^ 8 = 18446744073709551616 := by decide
  have c4 : (256 : Nat) ^ 4 = 4294967296 := by decide
  have g1 := h.g1
  have g2 := h.g2
  have r1 := h.r1
  have r2 := h.r2
  have m1 := h.m1
  have m2 := h.m2
  unfold readL
  rw [t0, t1, t2, t3, t4, t5, ← hA, ← hB, ← hC, ← hD, ← hE, ← hG]
  simp only [val_be, c8, c4]
  obtain ⟨f, l, g, r, m, k⟩ := b
  simp only at *
  simp only [Br.mk.injEq]
  refine ⟨?_, ?_, ?_, ?_, ?_, ?_⟩
  · rw [Nat.mod_eq_of_lt (by omega)]; exact sgn_mod f h'.f1 h'.f2
  · rw [Nat.mod_eq_of_lt (by omega)]; exact sgn_mod l h'.l1 h'.l2
  · rw [Nat.mod_eq_of_lt (by omega)]; omega
  · rw [Nat.mod_eq_of_lt (by omega)]; omega
  · rw [Nat.mod_eq_of_lt (by omega)]; omega
  · cases k <;> simp
theorem sgn_bounds (n : Nat) (h : n < 18446744073709551616) : -9223372036854775808 ≤ sgn n ∧ sgn n ≤ 9223372036854775807 := by
  unfold sgn; split <;> omega
theorem read_fits (l : List Int) (h : Bytes l) : Fits (readL l) := by
  have hb : ∀ (i j : Nat), Bytes ((l.drop i).take j) := fun i j x hx => h x (List.mem_of_mem_drop (List.mem_of_mem_take hx))
  have hv : ∀ (i j : Nat), val ((l.drop i).take j) < 256 ^ j := fun i j => Nat.lt_of_lt_of_le (val_lt _ (hb i j)) (Nat.pow_le_pow_right (by decide) (List.length_take_le _ _))
  have c8 : (256 : Nat) ^ 8 = 18446744073709551616 := by decide
  have c4 : (256 : Nat) ^ 4 = 4294967296 := by decide
  have h1 := hv 16 4
  have h2 := hv 20 4
  have h3 := hv 24 8
  rw [c4] at h1 h2
  rw [c8] at h3
  unfold readL
  exact ⟨by simp only; omega, by simp only; omega, by simp only; omega, by simp only; omega, by simp only; omega, by simp only; omega⟩
end Go.Proofs.Ytloknemmodmkiaa
