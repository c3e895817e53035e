/- Numbers as bytes, texts of a kind and parts, and what is read of such a text, as plain lists of numbers: a text tells its kind and parts again, no beginning of it is one, and what is read is laid as it was. Conditions: bytes are 0 to 255; a part is shorter than 2^64. -/
import Derived.Laws.BytesArg
namespace Go.Proofs.YtdfmaimeogcpdaaRRRR

/-! ### Numbers -/
/-- The k lowest bytes of n, the highest first. -/
def be : Nat → Nat → List Int
  | 0, _ => []
  | k + 1, n => ((n / 256 ^ k % 256 : Nat) : Int) :: be k n
/-- The number that bytes tell. -/
def val (l : List Int) : Nat := l.foldl (fun a x => a * 256 + x.toNat) 0
def Bytes (l : List Int) : Prop := ∀ x ∈ l, 0 ≤ x ∧ x ≤ 255

theorem be_length (k n : Nat) : (be k n).length = k := by
  induction k with
  | zero => rfl
  | succ k ih => simp [be, ih]
theorem be_bytes (k n : Nat) : Bytes (be k n) := by
  induction k with
  | zero => intro x hx; cases hx
  | succ k ih =>
    intro x hx
    rcases List.mem_cons.1 hx with rfl | h
    · omega
    · exact ih x h
theorem val_from (l : List Int) (a : Nat) : l.foldl (fun a x => a * 256 + x.toNat) a = a * 256 ^ l.length + val l := by
  induction l generalizing a with
  | nil => simp [val]
  | cons x l ih =>
    rw [List.foldl_cons, ih]
    have e : val (x :: l) = x.toNat * 256 ^ l.length + val l := by
      unfold val
      rw [List.foldl_cons, Nat.zero_mul, Nat.zero_add, ih]
      rfl
    rw [e, List.length_cons, Nat.pow_succ, Nat.add_mul, Nat.mul_assoc, Nat.mul_comm 256, Nat.add_assoc]
theorem val_cons (x : Int) (l : List Int) : val (x :: l) = x.toNat * 256 ^ l.length + val l := by
  have := val_from l (x.toNat)
  unfold val
  rw [List.foldl_cons, Nat.zero_mul, Nat.zero_add]
  exact this
theorem val_snoc (l : List Int) (x : Int) : val (l ++ [x]) = val l * 256 + x.toNat := by
  unfold val; rw [List.foldl_append]; rfl
theorem val_lt (l : List Int) (h : Bytes l) : val l < 256 ^ l.length := by
  induction l with
  | nil => simp [val]
  | cons x l ih =>
    have h1 := h x (List.mem_cons_self ..)
    have h2 := ih fun y hy => h y (List.mem_cons_of_mem _ hy)
    rw [val_cons, List.length_cons, Nat.pow_succ]
    have h3 : x.toNat ≤ 255 := by omega
    have := Nat.mul_le_mul_right (256 ^ l.length) h3
    omega
theorem val_be (k n : Nat) : val (be k n) = n % 256 ^ k := by
  induction k with
  | zero => simp [be, val, Nat.mod_one]
  | succ k ih =>
    rw [be, val_cons, ih, be_length, Nat.pow_succ]
    have e : (((n / 256 ^ k % 256 : Nat) : Int)).toNat = n / 256 ^ k % 256 := by omega
    rw [e, Nat.mod_mul, Nat.mul_comm (256 ^ k)]
    omega
theorem be_val (l : List Int) (h : Bytes l) : be l.length (val l) = l := by
  induction l with
  | nil => rfl
  | cons x l ih =>
    have h1 := h x (List.mem_cons_self ..)
    have hb : Bytes l := fun y hy => h y (List.mem_cons_of_mem _ hy)
    have h2 := val_lt l hb
    have hp : 0 < 256 ^ l.length := Nat.pow_pos (by decide)
    rw [List.length_cons, be, val_cons]
    have e1 : (x.toNat * 256 ^ l.length + val l) / 256 ^ l.length % 256 = x.toNat := by
      rw [Nat.mul_comm, Nat.mul_add_div hp, Nat.div_eq_of_lt h2, Nat.add_zero, Nat.mod_eq_of_lt (by omega)]
    have e2 : ∀ k n c, be k (c * 256 ^ k + n) = be k n := by
      intro k
      induction k with
      | zero => intro n c; rfl
      | succ k ihk =>
        intro n c
        have hk : 0 < 256 ^ k := Nat.pow_pos (by decide)
        have e3 : (c * 256 ^ (k + 1) + n) / 256 ^ k % 256 = n / 256 ^ k % 256 := by
          rw [Nat.pow_succ, Nat.mul_comm (256 ^ k) 256, ← Nat.mul_assoc, Nat.mul_comm (c * 256), Nat.mul_add_div hk]
          omega
        have e4 : c * 256 ^ (k + 1) + n = (c * 256) * 256 ^ k + n := by rw [Nat.pow_succ, Nat.mul_assoc, Nat.mul_comm (256 ^ k)]
        rw [be, be, e3, e4, ihk]
    rw [e1, e2, ih hb]
    congr 1
    omega

/-! ### Texts -/
/-- The parts, each with its length ahead. -/
def body (ps : List (List Int)) : List Int := ps.flatMap fun p => be 8 p.length ++ p
/-- The text of a kind and parts. -/
def laid (kind : Nat) (ps : List (List Int)) : List Int := be 1 kind ++ be 4 ps.length ++ body ps
theorem body_cons (p : List Int) (ps : List (List Int)) : body (p :: ps) = be 8 p.length ++ p ++ body ps := by simp [body]
theorem body_snoc (ps : List (List Int)) (p : List Int) : body (ps ++ [p]) = body ps ++ be 8 p.length ++ p := by simp [body]
theorem body_bytes (ps : List (List Int)) (h : ∀ p ∈ ps, Bytes p) : Bytes (body ps) := by
  intro x hx
  simp only [body, List.mem_flatMap, List.mem_append] at hx
  obtain ⟨p, hp, h1 | h1⟩ := hx
  · exact be_bytes _ _ x h1
  · exact h p hp x h1
theorem laid_bytes (kind : Nat) (ps : List (List Int)) (h : ∀ p ∈ ps, Bytes p) : Bytes (laid kind ps) := by
  intro x hx
  simp only [laid, List.mem_append] at hx
  rcases hx with (h1 | h1) | h1
  · exact be_bytes _ _ x h1
  · exact be_bytes _ _ x h1
  · exact body_bytes ps h x h1
/-- How many bytes parts have. -/
def total (ps : List (List Int)) : Nat := (ps.map List.length).sum
theorem total_cons (p : List Int) (ps : List (List Int)) : total (p :: ps) = p.length + total ps := by simp [total]
theorem total_snoc (ps : List (List Int)) (p : List Int) : total (ps ++ [p]) = total ps + p.length := by simp [total]
theorem body_length (ps : List (List Int)) : (body ps).length = 8 * ps.length + total ps := by
  induction ps with
  | nil => rfl
  | cons p ps ih => rw [body_cons, total_cons]; simp only [List.length_append, be_length, ih, List.length_cons]; omega
theorem laid_length (kind : Nat) (ps : List (List Int)) : (laid kind ps).length = 5 + 8 * ps.length + total ps := by
  simp only [laid, List.length_append, be_length, body_length]; omega
theorem part_le_total {p : List Int} {ps : List (List Int)} (h : p ∈ ps) : p.length ≤ total ps := by
  induction ps with
  | nil => cases h
  | cons q ps ih =>
    rw [total_cons]
    rcases List.mem_cons.1 h with rfl | h
    · omega
    · have := ih h; omega

/-! ### What is read -/
/-- The first part of a text, and what stands behind it. -/
def first (l : List Int) : Option (List Int × List Int) :=
  if l.length < 8 then none else if (l.drop 8).length < val (l.take 8) then none else some ((l.drop 8).take (val (l.take 8)), (l.drop 8).drop (val (l.take 8)))
/-- As many parts as are told, or as many as are whole. -/
def parse : Nat → List Int → List (List Int) × List Int
  | 0, l => ([], l)
  | m + 1, l => match first l with
    | none => ([], l)
    | some (p, r) => (p :: (parse m r).1, (parse m r).2)

theorem first_short {l : List Int} (h : l.length < 8) : first l = none := by unfold first; rw [if_pos h]
theorem first_of (l p r : List Int) (hl : l = be 8 p.length ++ p ++ r) (hp : p.length < 18446744073709551616) : first l = some (p, r) := by
  have h8 : (be 8 p.length).length = 8 := be_length _ _
  have t : l.take 8 = be 8 p.length := by rw [hl, List.append_assoc, List.take_append_of_le_length (by omega), List.take_of_length_le (by omega)]
  have d : l.drop 8 = p ++ r := by rw [hl, List.append_assoc, List.drop_append_of_le_length (by omega), List.drop_of_length_le (by omega), List.nil_append]
  have v : val (l.take 8) = p.length := by rw [t, val_be, Nat.mod_eq_of_lt (by omega)]
  have hlen : 8 ≤ l.length := by rw [hl]; simp only [List.length_append, be_length]; omega
  unfold first
  rw [if_neg (by omega), v, d, if_neg (by simp), List.take_append_of_le_length (by omega), List.take_of_length_le (by omega), List.drop_append_of_le_length (by omega), List.drop_of_length_le (by omega), List.nil_append]
theorem first_cut (p r : List Int) (c : Nat) (hp : p.length < 18446744073709551616) (hc : c < 8 + p.length) : first ((be 8 p.length ++ p ++ r).take c) = none := by
  have h8 : (be 8 p.length).length = 8 := be_length _ _
  by_cases h : c < 8
  · exact first_short (by rw [List.length_take]; omega)
  · have t : ((be 8 p.length ++ p ++ r).take c).take 8 = be 8 p.length := by
      rw [List.take_take, Nat.min_eq_left (by omega), List.append_assoc, List.take_append_of_le_length (by omega), List.take_of_length_le (by omega)]
    have v : val (((be 8 p.length ++ p ++ r).take c).take 8) = p.length := by rw [t, val_be, Nat.mod_eq_of_lt (by omega)]
    unfold first
    rw [v, if_neg (by simp only [List.length_take, List.length_append]; omega), if_pos]
    simp only [List.length_drop, List.length_take, List.length_append, be_length]
    omega
theorem first_some {l p r : List Int} (hb : Bytes l) (h : first l = some (p, r)) : l = be 8 p.length ++ p ++ r := by
  unfold first at h
  split at h
  · cases h
  · split at h
    · cases h
    · rename_i h1 h2
      simp only [Option.some.injEq, Prod.mk.injEq] at h
      obtain ⟨rfl, rfl⟩ := h
      have hl : ((l.drop 8).take (val (l.take 8))).length = val (l.take 8) := by rw [List.length_take]; omega
      have ht : (l.take 8).length = 8 := by rw [List.length_take]; omega
      have e : be 8 (val (l.take 8)) = l.take 8 := by
        have := be_val (l.take 8) (fun x hx => hb x (List.mem_of_mem_take hx))
        rwa [ht] at this
      rw [hl, e, List.append_assoc, List.take_append_drop, List.take_append_drop]
theorem first_lt {l p r : List Int} (h : first l = some (p, r)) : p.length + r.length + 8 = l.length := by
  unfold first at h
  split at h
  · cases h
  · split at h
    · cases h
    · rename_i h1 h2
      simp only [Option.some.injEq, Prod.mk.injEq] at h
      obtain ⟨rfl, rfl⟩ := h
      simp only [List.length_take, List.length_drop] at *
      omega

theorem parse_body (ps : List (List Int)) (r : List Int) (h : ∀ p ∈ ps, p.length < 18446744073709551616) : parse ps.length (body ps ++ r) = (ps, r) := by
  induction ps with
  | nil => rfl
  | cons p ps ih =>
    have e := first_of (body (p :: ps) ++ r) p (body ps ++ r) (by rw [body_cons, List.append_assoc]) (h p (List.mem_cons_self ..))
    rw [List.length_cons, parse, e]
    simp only [ih fun q hq => h q (List.mem_cons_of_mem _ hq)]
theorem parse_cut (ps : List (List Int)) (c : Nat) (h : ∀ p ∈ ps, p.length < 18446744073709551616) (hc : c < (body ps).length) : (parse ps.length ((body ps).take c)).1.length < ps.length := by
  induction ps generalizing c with
  | nil => simp [body] at hc
  | cons p ps ih =>
    have hp := h p (List.mem_cons_self ..)
    rw [List.length_cons, parse]
    by_cases h1 : c < 8 + p.length
    · rw [body_cons, first_cut p (body ps) c hp h1]; simp
    · have hd : (be 8 p.length ++ p).length = 8 + p.length := by rw [List.length_append, be_length]
      have e : (body (p :: ps)).take c = be 8 p.length ++ p ++ (body ps).take (c - (8 + p.length)) := by
        rw [body_cons, List.take_append, List.take_of_length_le (by omega), hd]
      rw [e, first_of _ p ((body ps).take (c - (8 + p.length))) rfl hp]
      have := ih (c - (8 + p.length)) (fun q hq => h q (List.mem_cons_of_mem _ hq)) (by rw [body_cons, List.length_append, hd] at hc; omega)
      simp only [List.length_cons]
      omega
theorem parse_of (m : Nat) (l : List Int) (hb : Bytes l) (h : (parse m l).1.length = m) : l = body (parse m l).1 ++ (parse m l).2 := by
  induction m generalizing l with
  | zero => rfl
  | succ m ih =>
    rw [parse] at h ⊢
    split at h
    · simp at h
    · rename_i p r e
      have hl := first_some hb e
      have hr : Bytes r := fun x hx => hb x (by rw [hl]; exact List.mem_append_right _ hx)
      have := ih r hr (by simpa using h)
      show l = body (p :: (parse m r).1) ++ (parse m r).2
      rw [body_cons, List.append_assoc, ← this]
      exact hl
theorem parse_parts (m : Nat) (l : List Int) : (parse m l).1.length ≤ m := by
  induction m generalizing l with
  | zero => simp [parse]
  | succ m ih =>
    rw [parse]
    split
    · simp
    · rename_i p r e
      have := ih r
      simp only [List.length_cons]; omega
theorem parse_bytes (m : Nat) (l : List Int) (hb : Bytes l) : ∀ p ∈ (parse m l).1, Bytes p := by
  induction m generalizing l with
  | zero => intro p hp; cases hp
  | succ m ih =>
    rw [parse]
    split
    · intro p hp; cases hp
    · rename_i q r e
      have hl := first_some hb e
      intro p hp
      rcases List.mem_cons.1 hp with rfl | h
      · exact fun x hx => hb x (by rw [hl]; exact List.mem_append_left _ (List.mem_append_right _ hx))
      · exact ih r (fun x hx => hb x (by rw [hl]; exact List.mem_append_right _ hx)) p h
theorem parse_total (m : Nat) (l : List Int) : total (parse m l).1 ≤ l.length := by
  induction m generalizing l with
  | zero => simp [parse, total]
  | succ m ih =>
    rw [parse]
    split
    · simp [total]
    · rename_i p r e
      have := ih r
      have h2 := first_lt e
      simp only [total_cons]; omega

/-- How many parts a text tells. -/
def many (l : List Int) : Nat := val ((l.drop 1).take 4)
/-- A text's kind, parts, and the number of what is wrong with it. -/
def partsOf (l : List Int) : Int × List (List Int) × Int :=
  if l.length < 5 then (0, [], 2) else if 65536 < many l then (0, [], 3)
  else if (parse (many l) (l.drop 5)).1.length < many l then (0, [], 2)
  else if (parse (many l) (l.drop 5)).2 ≠ [] then (0, [], 3) else (l.headD 0, (parse (many l) (l.drop 5)).1, 0)

theorem laid_split (kind : Nat) (ps : List (List Int)) (c : Nat) (hc : 5 ≤ c) (r : List Int) :
    ((laid kind ps ++ r).take c).length = min c (laid kind ps ++ r).length ∧ ((laid kind ps ++ r).take c).drop 5 = (body ps ++ r).take (c - 5) ∧ ((((laid kind ps ++ r).take c).drop 1).take 4) = be 4 ps.length ∧ ((laid kind ps ++ r).take c).headD 0 = ((kind % 256 : Nat) : Int) := by
  obtain ⟨d, rfl⟩ : ∃ d, c = 5 + d := ⟨c - 5, by omega⟩
  have h1 : be 1 kind = [((kind % 256 : Nat) : Int)] := by simp [be]
  have h4 : (be 4 ps.length).length = 4 := be_length _ _
  have e : laid kind ps ++ r = [((kind % 256 : Nat) : Int)] ++ be 4 ps.length ++ (body ps ++ r) := by rw [laid, h1]; simp
  have et : (laid kind ps ++ r).take (5 + d) = ((kind % 256 : Nat) : Int) :: (be 4 ps.length ++ (body ps ++ r).take d) := by
    rw [e, List.take_append, List.take_of_length_le (by simp; omega)]
    simp only [List.length_append, List.length_cons, List.length_nil, h4]
    rw [show 5 + d - (0 + 1 + 4) = d by omega]
    simp
  refine ⟨List.length_take, ?_, ?_, ?_⟩
  · rw [et, show 5 = 4 + 1 by rfl, List.drop_succ_cons, List.drop_append_of_le_length (by omega), List.drop_of_length_le (by omega), List.nil_append]
    congr 1
    omega
  · rw [et, List.drop_succ_cons, List.drop_zero, List.take_append_of_le_length (by omega), List.take_of_length_le (by omega)]
  · rw [et]; rfl

/-- A text with more behind: the kind and the parts, if there is nothing more. -/
theorem partsOf_laid (kind : Nat) (ps : List (List Int)) (r : List Int) (hk : kind < 256) (hn : ps.length ≤ 65536) (h : ∀ p ∈ ps, p.length < 18446744073709551616) :
    partsOf (laid kind ps ++ r) = if r = [] then ((kind : Int), ps, 0) else (0, [], 3) := by
  have hlen : 5 ≤ (laid kind ps ++ r).length := by rw [List.length_append, laid_length]; omega
  obtain ⟨a, b, c, d⟩ := laid_split kind ps (laid kind ps ++ r).length hlen r
  rw [List.take_length] at a b c d
  have hm : many (laid kind ps ++ r) = ps.length := by unfold many; rw [c, val_be, Nat.mod_eq_of_lt (by omega)]
  have hb : (laid kind ps ++ r).drop 5 = body ps ++ r := by
    rw [b, List.take_of_length_le]
    simp only [List.length_append, laid_length, body_length]; omega
  unfold partsOf
  rw [if_neg (by omega), hm, if_neg (by omega), hb, parse_body ps r h]
  simp only [Nat.lt_irrefl, if_false]
  by_cases hr : r = []
  · rw [if_neg (by simpa using hr), if_pos hr, d, Nat.mod_eq_of_lt hk]
  · rw [if_pos (by simpa using hr), if_neg hr]
/-- No beginning of a text is one: bytes are missing. -/
theorem partsOf_cut (kind : Nat) (ps : List (List Int)) (c : Nat) (hn : ps.length ≤ 65536) (h : ∀ p ∈ ps, p.length < 18446744073709551616) (hc : c < (laid kind ps).length) :
    partsOf ((laid kind ps).take c) = (0, [], 2) := by
  by_cases h5 : c < 5
  · unfold partsOf; rw [if_pos (by rw [List.length_take]; omega)]
  · obtain ⟨a, b, cc, d⟩ := laid_split kind ps c (by omega) []
    rw [List.append_nil, List.append_nil] at *
    have hm : many ((laid kind ps).take c) = ps.length := by unfold many; rw [cc, val_be, Nat.mod_eq_of_lt (by omega)]
    unfold partsOf
    rw [if_neg (by rw [a]; omega), hm, if_neg (by omega), b, if_pos (parse_cut ps _ h (by rw [laid_length] at hc; rw [body_length]; omega))]
/-- What is read is laid as it was. -/
theorem laid_partsOf (l : List Int) (hb : Bytes l) (h : (partsOf l).2.2 = 0) :
    0 ≤ (partsOf l).1 ∧ (partsOf l).1 ≤ 255 ∧ (partsOf l).2.1.length ≤ 65536 ∧ laid (partsOf l).1.toNat (partsOf l).2.1 = l := by
  unfold partsOf at h ⊢
  split at h
  · cases h
  split at h
  · cases h
  split at h
  · cases h
  split at h
  · cases h
  rename_i h1 h2 h3 h4
  rw [if_neg h1, if_neg h2, if_neg h3, if_neg h4]
  have hle := parse_parts (many l) (l.drop 5)
  have heq : (parse (many l) (l.drop 5)).1.length = many l := by omega
  have hp := parse_of (many l) (l.drop 5) (fun x hx => hb x (List.mem_of_mem_drop hx)) heq
  have hnil : (parse (many l) (l.drop 5)).2 = [] := by simpa using h4
  rw [hnil, List.append_nil] at hp
  obtain ⟨x, l', rfl⟩ : ∃ x l', l = x :: l' := by cases l with
    | nil => simp at h1
    | cons x l' => exact ⟨x, l', rfl⟩
  have hx := hb x (List.mem_cons_self ..)
  refine ⟨hx.1, hx.2, by simp only; omega, ?_⟩
  simp only [List.headD_cons]
  have e4 : be 4 (many (x :: l')) = l'.take 4 := by
    have hl : (l'.take 4).length = 4 := by simp only [List.length_cons] at h1; rw [List.length_take]; omega
    have := be_val (l'.take 4) (fun y hy => hb y (List.mem_cons_of_mem _ (List.mem_of_mem_take hy)))
    rw [hl] at this
    unfold many
    rw [List.drop_succ_cons, List.drop_zero]
    exact this
  have e1 : be 1 x.toNat = [x] := by simp [be]; omega
  unfold laid
  rw [heq, e4, e1, ← hp, List.drop_succ_cons]
  simp
/-- Two texts are the same just if the kinds and the parts are. -/
theorem laid_inj (a b : Nat) (x y : List (List Int)) (ha : a < 256) (hb : b < 256) (hx : x.length ≤ 65536) (hy : y.length ≤ 65536) (h1 : ∀ p ∈ x, p.length < 18446744073709551616) (h2 : ∀ p ∈ y, p.length < 18446744073709551616)
    (h : laid a x = laid b y) : a = b ∧ x = y := by
  have e1 := partsOf_laid a x [] ha hx h1
  have e2 := partsOf_laid b y [] hb hy h2
  rw [List.append_nil] at e1 e2
  rw [h, e2] at e1
  simp at e1
  exact ⟨by omega, e1.2.symm⟩
end Go.Proofs.YtdfmaimeogcpdaaRRRR
