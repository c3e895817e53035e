/- Briefs joined, asked and folded: plain mathematics over the model's own bit operations. No conditions but what each theorem says. -/
import Derived.Laws.BitsAllLaws
namespace Go.Proofs.Ytloknemmodmkiaa

/-- A brief. -/
structure Br where
  f : Int
  l : Int
  g : Int
  r : Int
  m : Int
  k : Bool
deriving DecidableEq

/-- A query. -/
structure Qu where
  f : Int
  l : Int
  g : Int
  r : Int

def none6 : Br := ⟨0, 0, 0, 0, 0, false⟩

structure Fits (b : Br) : Prop where
  g1 : 0 ≤ b.g
  g2 : b.g < 4294967296
  r1 : 0 ≤ b.r
  r2 : b.r < 4294967296
  m1 : 0 ≤ b.m
  m2 : b.m < 18446744073709551616
structure QFits (b : Qu) : Prop where
  g1 : 0 ≤ b.g
  g2 : b.g < 4294967296
  r1 : 0 ≤ b.r
  r2 : b.r < 4294967296

theorem none_fits : Fits none6 := by constructor <;> decide

/-! ### bits -/
theorem bor_comm {x y : Int} (h1 : 0 ≤ x) (h2 : x < 4294967296) (h3 : 0 ≤ y) (h4 : y < 4294967296) : bits .or .u32 x y = bits .or .u32 y x := by
  rw [u32_or _ _ h1 h2 h3 h4, u32_or _ _ h3 h4 h1 h2, Nat.or_comm]
theorem bor_bounds {x y : Int} (h1 : 0 ≤ x) (h2 : x < 4294967296) (h3 : 0 ≤ y) (h4 : y < 4294967296) : 0 ≤ bits .or .u32 x y ∧ bits .or .u32 x y < 4294967296 := by
  rw [u32_or _ _ h1 h2 h3 h4]
  have := Nat.or_lt_two_pow (x := x.toNat) (y := y.toNat) (n := 32) (by omega) (by omega)
  omega
theorem bor_lt {x y : Int} (k : Nat) (hk : k ≤ 32) (h1 : 0 ≤ x) (h2 : x < 2 ^ k) (h3 : 0 ≤ y) (h4 : y < 2 ^ k) : bits .or .u32 x y < 2 ^ k := by
  have hp : (2 : Int) ^ k ≤ 4294967296 := by
    have : (2 : Nat) ^ k ≤ 2 ^ 32 := Nat.pow_le_pow_right (by decide) hk
    have h : ((2 ^ k : Nat) : Int) ≤ ((2 ^ 32 : Nat) : Int) := Int.ofNat_le.2 this
    simpa using h
  rw [u32_or _ _ h1 (by omega) h3 (by omega)]
  have hx : x.toNat < 2 ^ k := by have : ((x.toNat : Nat) : Int) < ((2 ^ k : Nat) : Int) := by simp; omega
                                  exact Int.ofNat_lt.1 this
  have hy : y.toNat < 2 ^ k := by have : ((y.toNat : Nat) : Int) < ((2 ^ k : Nat) : Int) := by simp; omega
                                  exact Int.ofNat_lt.1 this
  have h : ((x.toNat ||| y.toNat : Nat) : Int) < ((2 ^ k : Nat) : Int) := Int.ofNat_lt.2 (Nat.or_lt_two_pow hx hy)
  simpa using h
theorem bor_pos {x y : Int} (h1 : 0 ≤ x) (h2 : x < 4294967296) (h3 : 0 ≤ y) (h4 : y < 4294967296) (h : x ≠ 0) : bits .or .u32 x y ≠ 0 := by
  rw [u32_or _ _ h1 h2 h3 h4]
  have := Nat.left_le_or (n := x.toNat) (m := y.toNat)
  omega
theorem bor_assoc {x y z : Int} (h1 : 0 ≤ x) (h2 : x < 4294967296) (h3 : 0 ≤ y) (h4 : y < 4294967296) (h5 : 0 ≤ z) (h6 : z < 4294967296) :
    bits .or .u32 (bits .or .u32 x y) z = bits .or .u32 x (bits .or .u32 y z) := by
  have a := bor_bounds h1 h2 h3 h4
  have b := bor_bounds h3 h4 h5 h6
  rw [u32_or _ _ a.1 a.2 h5 h6, u32_or _ _ h1 h2 b.1 b.2, u32_or _ _ h1 h2 h3 h4, u32_or _ _ h3 h4 h5 h6, Int.toNat_natCast, Int.toNat_natCast, Nat.or_assoc]
theorem band_or {q x y : Int} (h1 : 0 ≤ x) (h2 : x < 4294967296) (h3 : 0 ≤ y) (h4 : y < 4294967296) (h5 : 0 ≤ q) (h6 : q < 4294967296) (h : bits .and .u32 q x ≠ 0) : bits .and .u32 q (bits .or .u32 x y) ≠ 0 := by
  have a := bor_bounds h1 h2 h3 h4
  rw [u32_and _ _ h5 h6 h1 h2] at h
  rw [u32_and _ _ h5 h6 a.1 a.2, u32_or _ _ h1 h2 h3 h4, Int.toNat_natCast, Nat.and_or_distrib_left]
  have := Nat.left_le_or (n := q.toNat &&& x.toNat) (m := q.toNat &&& y.toNat)
  omega
theorem band_or' {q x y : Int} (h1 : 0 ≤ x) (h2 : x < 4294967296) (h3 : 0 ≤ y) (h4 : y < 4294967296) (h5 : 0 ≤ q) (h6 : q < 4294967296) (h : bits .and .u32 q y ≠ 0) : bits .and .u32 q (bits .or .u32 x y) ≠ 0 := by
  rw [bor_comm h1 h2 h3 h4]
  exact band_or h3 h4 h1 h2 h5 h6 h
theorem band_comm {x y : Int} (h1 : 0 ≤ x) (h2 : x < 4294967296) (h3 : 0 ≤ y) (h4 : y < 4294967296) : bits .and .u32 x y = bits .and .u32 y x := by
  rw [u32_and _ _ h1 h2 h3 h4, u32_and _ _ h3 h4 h1 h2, Nat.and_comm]
theorem wrap_u64 (n : Int) : IntKind.u64.wrap n = n % 18446744073709551616 := by simp [IntKind.wrap, IntKind.bits, IntKind.signed]

/-! ### right -/
def bitsB (x k : Int) : Bool := (x != 0) && (x / 2 ^ k.toNat == 0)
theorem bitsB_iff {x : Int} {k : Nat} (h : 0 ≤ x) : bitsB x k = true ↔ x ≠ 0 ∧ x < 2 ^ k := by
  unfold bitsB
  have hp : (0 : Int) < 2 ^ k := Int.pow_pos (by decide)
  simp only [Bool.and_eq_true, bne_iff_ne, beq_iff_eq, Int.toNat_natCast]
  constructor
  · rintro ⟨h1, h2⟩
    refine ⟨h1, ?_⟩
    have := Int.emod_add_mul_ediv x (2 ^ k)
    rw [h2] at this
    have := Int.emod_lt_of_pos x hp
    omega
  · rintro ⟨h1, h2⟩
    exact ⟨h1, Int.ediv_eq_zero_of_lt h h2⟩
def rightB (b : Br) : Bool := decide (b = none6) || (b.m != 0 && decide (b.f ≤ b.l) && bitsB b.g 8 && bitsB b.r 24)
theorem right_iff {b : Br} (h : Fits b) : rightB b = true ↔ b = none6 ∨ (b.m ≠ 0 ∧ b.f ≤ b.l ∧ b.g ≠ 0 ∧ b.g < 256 ∧ b.r ≠ 0 ∧ b.r < 16777216) := by
  have e1 := bitsB_iff (k := 8) h.g1
  have e2 := bitsB_iff (k := 24) h.r1
  have c8 : ((8 : Nat) : Int) = 8 := rfl
  have c24 : ((24 : Nat) : Int) = 24 := rfl
  have p8 : (2 : Int) ^ 8 = 256 := by decide
  have p24 : (2 : Int) ^ 24 = 16777216 := by decide
  rw [c8, p8] at e1
  rw [c24, p24] at e2
  unfold rightB
  simp only [Bool.or_eq_true, Bool.and_eq_true, decide_eq_true_eq, bne_iff_ne, e1, e2, and_assoc]
theorem right_zero {b : Br} (h : Fits b) (hr : rightB b = true) (h0 : b.m = 0) : b = none6 := by
  rcases (right_iff h).1 hr with h1 | h1
  · exact h1
  · exact absurd h0 h1.1

/-! ### joined -/
def both (a b : Br) : Br := ⟨if b.f < a.f then b.f else a.f, if b.l > a.l then b.l else a.l, bits .or .u32 a.g b.g, bits .or .u32 a.r b.r, IntKind.u64.wrap (a.m + b.m), a.k || b.k⟩
def joinB (a b : Br) : Br := if a.m = 0 then b else if b.m = 0 then a else both a b
theorem both_fits {a b : Br} (ha : Fits a) (hb : Fits b) : Fits (both a b) := by
  have h1 := bor_bounds ha.g1 ha.g2 hb.g1 hb.g2
  have h2 := bor_bounds ha.r1 ha.r2 hb.r1 hb.r2
  exact ⟨h1.1, h1.2, h2.1, h2.2, by unfold both; simp only [wrap_u64]; omega, by unfold both; simp only [wrap_u64]; omega⟩
theorem join_fits {a b : Br} (ha : Fits a) (hb : Fits b) : Fits (joinB a b) := by
  unfold joinB
  split
  · exact hb
  · split
    · exact ha
    · exact both_fits ha hb
theorem both_comm {a b : Br} (ha : Fits a) (hb : Fits b) : both a b = both b a := by
  unfold both
  rw [bor_comm ha.g1 ha.g2 hb.g1 hb.g2, bor_comm ha.r1 ha.r2 hb.r1 hb.r2, Int.add_comm a.m, Bool.or_comm a.k]
  congr 1
  · split <;> split <;> omega
  · split <;> split <;> omega
theorem join_none_right {a : Br} (ha : Fits a) (hr : rightB a = true) : joinB a none6 = a := by
  unfold joinB
  split
  · exact (right_zero ha hr (by assumption)).symm
  · rfl
theorem join_none_left (a : Br) : joinB none6 a = a := rfl
theorem join_comm {a b : Br} (ha : Fits a) (hb : Fits b) (ra : rightB a = true) (rb : rightB b = true) : joinB a b = joinB b a := by
  by_cases h0 : a.m = 0
  · rw [right_zero ha ra h0, join_none_left, join_none_right hb rb]
  · by_cases h1 : b.m = 0
    · rw [right_zero hb rb h1, join_none_left, join_none_right ha ra]
    · unfold joinB
      rw [if_neg h0, if_neg h1, if_neg h1, if_neg h0, both_comm ha hb]
theorem join_many {a b : Br} (ha : Fits a) (hb : Fits b) (h : a.m + b.m < 18446744073709551616) : (joinB a b).m = a.m + b.m := by
  unfold joinB
  split
  · omega
  · split
    · omega
    · unfold both
      have := ha.m1
      have := hb.m1
      simp only [wrap_u64]
      omega
theorem both_assoc {a b c : Br} (ha : Fits a) (hb : Fits b) (hc : Fits c) : both (both a b) c = both a (both b c) := by
  unfold both
  simp only [Br.mk.injEq]
  refine ⟨?_, ?_, bor_assoc ha.g1 ha.g2 hb.g1 hb.g2 hc.g1 hc.g2, bor_assoc ha.r1 ha.r2 hb.r1 hb.r2 hc.r1 hc.r2, ?_, Bool.or_assoc ..⟩
  · repeat' split
    all_goals omega
  · repeat' split
    all_goals omega
  · simp only [wrap_u64]; omega
theorem join_assoc {a b c : Br} (ha : Fits a) (hb : Fits b) (hc : Fits c) (h : a.m + b.m + c.m < 18446744073709551616) : joinB (joinB a b) c = joinB a (joinB b c) := by
  have m1 := ha.m1
  have m2 := hb.m1
  have m3 := hc.m1
  by_cases h0 : a.m = 0
  · have e : ∀ x, joinB a x = x := fun x => by unfold joinB; rw [if_pos h0]
    rw [e, e]
  · by_cases h1 : b.m = 0
    · have e : joinB a b = a := by unfold joinB; rw [if_neg h0, if_pos h1]
      have e2 : joinB b c = c := by unfold joinB; rw [if_pos h1]
      rw [e, e2]
    · have e : joinB a b = both a b := by unfold joinB; rw [if_neg h0, if_neg h1]
      have hab : (both a b).m ≠ 0 := by rw [← e, join_many ha hb (by omega)]; omega
      by_cases h2 : c.m = 0
      · have e2 : joinB b c = b := by unfold joinB; rw [if_neg h1, if_pos h2]
        rw [e2, e]
        unfold joinB
        rw [if_neg hab, if_pos h2]
      · have e2 : joinB b c = both b c := by unfold joinB; rw [if_neg h1, if_neg h2]
        have hbc : (both b c).m ≠ 0 := by rw [← e2, join_many hb hc (by omega)]; omega
        rw [e, e2]
        unfold joinB
        rw [if_neg hab, if_neg h2, if_neg h0, if_neg hbc, both_assoc ha hb hc]
theorem join_right {a b : Br} (ha : Fits a) (hb : Fits b) (ra : rightB a = true) (rb : rightB b = true) (h : a.m + b.m < 18446744073709551616) : rightB (joinB a b) = true := by
  have hm := join_many ha hb h
  have m1 := ha.m1
  have m2 := hb.m1
  by_cases h0 : a.m = 0
  · have e : joinB a b = b := by unfold joinB; rw [if_pos h0]
    rw [e]; exact rb
  · by_cases h1 : b.m = 0
    · have e : joinB a b = a := by unfold joinB; rw [if_neg h0, if_pos h1]
      rw [e]; exact ra
    · have e : joinB a b = both a b := by unfold joinB; rw [if_neg h0, if_neg h1]
      rw [e] at hm ⊢
      have n1 : a ≠ none6 := fun k => h0 (by rw [k]; rfl)
      have n2 : b ≠ none6 := fun k => h1 (by rw [k]; rfl)
      obtain ⟨-, a2, a3, a4, a5, a6⟩ := ((right_iff ha).1 ra).resolve_left n1
      obtain ⟨-, b2, b3, b4, b5, b6⟩ := ((right_iff hb).1 rb).resolve_left n2
      refine (right_iff (both_fits ha hb)).2 (.inr ⟨by omega, ?_, bor_pos ha.g1 ha.g2 hb.g1 hb.g2 a3, ?_, bor_pos ha.r1 ha.r2 hb.r1 hb.r2 a5, ?_⟩)
      · unfold both
        show (if b.f < a.f then b.f else a.f) ≤ (if b.l > a.l then b.l else a.l)
        split <;> split <;> omega
      · exact bor_lt 8 (by decide) ha.g1 a4 hb.g1 b4
      · exact bor_lt 24 (by decide) ha.r1 a6 hb.r1 b6

/-! ### asked -/
def mayB (q : Qu) (b : Br) : Bool := b.m != 0 && decide (¬ (if b.f > q.f then b.f else q.f) > (if b.l < q.l then b.l else q.l)) && bits .and .u32 q.g b.g != 0 && bits .and .u32 q.r b.r != 0
theorem may_iff (q : Qu) (b : Br) : mayB q b = true ↔ b.m ≠ 0 ∧ (q.f ≤ q.l ∧ q.f ≤ b.l ∧ b.f ≤ q.l ∧ b.f ≤ b.l) ∧ bits .and .u32 q.g b.g ≠ 0 ∧ bits .and .u32 q.r b.r ≠ 0 := by
  unfold mayB
  simp only [Bool.and_eq_true, decide_eq_true_eq, bne_iff_ne, and_assoc]
  have : ¬ ((if b.f > q.f then b.f else q.f) > (if b.l < q.l then b.l else q.l)) ↔ (q.f ≤ q.l ∧ q.f ≤ b.l ∧ b.f ≤ q.l ∧ b.f ≤ b.l) := by
    split <;> split <;> omega
  rw [this]
  simp only [and_assoc]
theorem may_join_left {q : Qu} {a b : Br} (hq : QFits q) (ha : Fits a) (hb : Fits b) (h : a.m + b.m < 18446744073709551616) (hm : mayB q a = true) : mayB q (joinB a b) = true := by
  have hj := join_many ha hb h
  have m1 := ha.m1
  have m2 := hb.m1
  have hm' := (may_iff q a).1 hm
  by_cases h1 : b.m = 0
  · have e : joinB a b = a := by unfold joinB; rw [if_neg hm'.1, if_pos h1]
    rw [e]; exact hm
  · have e : joinB a b = both a b := by unfold joinB; rw [if_neg hm'.1, if_neg h1]
    rw [e] at hj ⊢
    obtain ⟨p1, p2, p3, p4⟩ := hm'
    refine (may_iff q _).2 ⟨by omega, ?_, band_or ha.g1 ha.g2 hb.g1 hb.g2 hq.g1 hq.g2 p3, band_or ha.r1 ha.r2 hb.r1 hb.r2 hq.r1 hq.r2 p4⟩
    show q.f ≤ q.l ∧ q.f ≤ (if b.l > a.l then b.l else a.l) ∧ (if b.f < a.f then b.f else a.f) ≤ q.l ∧ (if b.f < a.f then b.f else a.f) ≤ (if b.l > a.l then b.l else a.l)
    split <;> split <;> omega
theorem may_join_right {q : Qu} {a b : Br} (hq : QFits q) (ha : Fits a) (hb : Fits b) (h : a.m + b.m < 18446744073709551616) (hm : mayB q b = true) : mayB q (joinB a b) = true := by
  by_cases h0 : a.m = 0
  · have e : joinB a b = b := by unfold joinB; rw [if_pos h0]
    rw [e]; exact hm
  · have hm' := (may_iff q b).1 hm
    have e : joinB a b = joinB b a := by unfold joinB; rw [if_neg h0, if_neg hm'.1, if_neg hm'.1, if_neg h0, both_comm ha hb]
    rw [e]
    exact may_join_left hq hb ha (by omega) hm
def wideQ (q k : Qu) : Qu := ⟨if k.f < q.f then k.f else q.f, if k.l > q.l then k.l else q.l, bits .or .u32 q.g k.g, bits .or .u32 q.r k.r⟩
theorem may_wide {q k : Qu} {b : Br} (hq : QFits q) (hk : QFits k) (hb : Fits b) (h : mayB q b = true) : mayB (wideQ q k) b = true := by
  obtain ⟨p1, p2, p3, p4⟩ := (may_iff q b).1 h
  have x1 := bor_bounds hq.g1 hq.g2 hk.g1 hk.g2
  have x2 := bor_bounds hq.r1 hq.r2 hk.r1 hk.r2
  refine (may_iff _ b).2 ⟨p1, ?_, ?_, ?_⟩
  · show (if k.f < q.f then k.f else q.f) ≤ (if k.l > q.l then k.l else q.l) ∧ (if k.f < q.f then k.f else q.f) ≤ b.l ∧ b.f ≤ (if k.l > q.l then k.l else q.l) ∧ b.f ≤ b.l
    split <;> split <;> omega
  · show bits .and .u32 (bits .or .u32 q.g k.g) b.g ≠ 0
    rw [band_comm x1.1 x1.2 hb.g1 hb.g2]
    rw [band_comm hq.g1 hq.g2 hb.g1 hb.g2] at p3
    exact band_or hq.g1 hq.g2 hk.g1 hk.g2 hb.g1 hb.g2 p3
  · show bits .and .u32 (bits .or .u32 q.r k.r) b.r ≠ 0
    rw [band_comm x2.1 x2.2 hb.r1 hb.r2]
    rw [band_comm hq.r1 hq.r2 hb.r1 hb.r2] at p4
    exact band_or hq.r1 hq.r2 hk.r1 hk.r2 hb.r1 hb.r2 p4
theorem may_wide' {q k : Qu} {b : Br} (hq : QFits q) (hk : QFits k) (hb : Fits b) (h : mayB k b = true) : mayB (wideQ q k) b = true := by
  obtain ⟨p1, p2, p3, p4⟩ := (may_iff k b).1 h
  have x1 := bor_bounds hq.g1 hq.g2 hk.g1 hk.g2
  have x2 := bor_bounds hq.r1 hq.r2 hk.r1 hk.r2
  refine (may_iff _ b).2 ⟨p1, ?_, ?_, ?_⟩
  · show (if k.f < q.f then k.f else q.f) ≤ (if k.l > q.l then k.l else q.l) ∧ (if k.f < q.f then k.f else q.f) ≤ b.l ∧ b.f ≤ (if k.l > q.l then k.l else q.l) ∧ b.f ≤ b.l
    split <;> split <;> omega
  · show bits .and .u32 (bits .or .u32 q.g k.g) b.g ≠ 0
    rw [band_comm x1.1 x1.2 hb.g1 hb.g2]
    rw [band_comm hk.g1 hk.g2 hb.g1 hb.g2] at p3
    exact band_or' hq.g1 hq.g2 hk.g1 hk.g2 hb.g1 hb.g2 p3
  · show bits .and .u32 (bits .or .u32 q.r k.r) b.r ≠ 0
    rw [band_comm x2.1 x2.2 hb.r1 hb.r2]
    rw [band_comm hk.r1 hk.r2 hb.r1 hb.r2] at p4
    exact band_or' hq.r1 hq.r2 hk.r1 hk.r2 hb.r1 hb.r2 p4

/-! ### of an event -/
def withinB (n k : Int) : Bool := decide (0 ≤ n) && decide (n < k)
def ofB (g f a : Int) (k : Bool) : Br := if withinB g 8 && withinB f 24 then ⟨a, a, 2 ^ g.toNat, 2 ^ f.toNat, 1, k⟩ else none6
theorem pow_lt (n : Int) (k : Nat) (h0 : 0 ≤ n) (h1 : n < k) : (2 : Int) ^ n.toNat < 2 ^ k := by
  have h : (2 : Nat) ^ n.toNat < 2 ^ k := Nat.pow_lt_pow_right (by decide) (by omega)
  have h2 : ((2 ^ n.toNat : Nat) : Int) < ((2 ^ k : Nat) : Int) := Int.ofNat_lt.2 h
  simpa using h2
theorem of_fits (g f a : Int) (k : Bool) : Fits (ofB g f a k) := by
  unfold ofB
  split
  · rename_i h
    unfold withinB at h
    simp only [Bool.and_eq_true, decide_eq_true_eq] at h
    have p1 := pow_lt g 8 h.1.1 h.1.2
    have p2 := pow_lt f 24 h.2.1 h.2.2
    have q1 : (0 : Int) < 2 ^ g.toNat := Int.pow_pos (by decide)
    have q2 : (0 : Int) < 2 ^ f.toNat := Int.pow_pos (by decide)
    have c1 : (2 : Int) ^ 8 = 256 := by decide
    have c2 : (2 : Int) ^ 24 = 16777216 := by decide
    exact ⟨by show (0 : Int) ≤ 2 ^ g.toNat; omega, by show (2 : Int) ^ g.toNat < _; omega, by show (0 : Int) ≤ 2 ^ f.toNat; omega, by show (2 : Int) ^ f.toNat < _; omega, by show (0 : Int) ≤ 1; decide, by show (1 : Int) < _; decide⟩
  · exact none_fits
theorem of_right (g f a : Int) (k : Bool) : rightB (ofB g f a k) = true := by
  refine (right_iff (of_fits ..)).2 ?_
  unfold ofB
  split
  · rename_i h
    unfold withinB at h
    simp only [Bool.and_eq_true, decide_eq_true_eq] at h
    have p1 := pow_lt g 8 h.1.1 h.1.2
    have p2 := pow_lt f 24 h.2.1 h.2.2
    have q1 : (0 : Int) < 2 ^ g.toNat := Int.pow_pos (by decide)
    have q2 : (0 : Int) < 2 ^ f.toNat := Int.pow_pos (by decide)
    have c1 : (2 : Int) ^ 8 = 256 := by decide
    have c2 : (2 : Int) ^ 24 = 16777216 := by decide
    refine .inr ⟨by show (1 : Int) ≠ 0; decide, Int.le_refl _, ?_, ?_, ?_, ?_⟩ <;> simp only <;> omega
  · exact .inl rfl
theorem of_many (g f a : Int) (k : Bool) : (ofB g f a k).m ≤ 1 := by
  unfold ofB; split
  · exact Int.le_refl _
  · show (0 : Int) ≤ 1; decide

/-! ### folded -/
def foldB (l : List Br) : Br := l.foldl joinB none6
def sumB : List Br → Int
  | [] => 0
  | b :: l => b.m + sumB l
theorem sum_cons (b : Br) (l : List Br) : sumB (b :: l) = b.m + sumB l := rfl
theorem sum_append (a b : List Br) : sumB (a ++ b) = sumB a + sumB b := by
  induction a with
  | nil => simp [sumB]
  | cons x a ih => simp only [List.cons_append, sumB, ih]; omega
theorem sum_nonneg {l : List Br} (h : ∀ b ∈ l, Fits b) : 0 ≤ sumB l := by
  induction l with
  | nil => decide
  | cons x l ih =>
    have := (h x (List.mem_cons_self ..)).m1
    have := ih fun b hb => h b (List.mem_cons_of_mem _ hb)
    rw [sum_cons]
    omega
theorem fold_from {x : Br} {l : List Br} (hx : Fits x) (h : ∀ b ∈ l, Fits b) (hs : x.m + sumB l < 18446744073709551616) :
    Fits (l.foldl joinB x) ∧ (l.foldl joinB x).m = x.m + sumB l := by
  induction l generalizing x with
  | nil => exact ⟨hx, by simp [sumB]⟩
  | cons y l ih =>
    have hy := h y (List.mem_cons_self ..)
    have hl := fun b hb => h b (List.mem_cons_of_mem _ hb)
    have hn := sum_nonneg hl
    rw [sum_cons] at hs
    have hm := join_many hx hy (by omega)
    have := ih (join_fits hx hy) hl (by omega)
    refine ⟨this.1, this.2.trans ?_⟩
    rw [sum_cons]
    omega
theorem fold_right {x : Br} {l : List Br} (hx : Fits x) (rx : rightB x = true) (h : ∀ b ∈ l, Fits b ∧ rightB b = true) (hs : x.m + sumB l < 18446744073709551616) : rightB (l.foldl joinB x) = true := by
  induction l generalizing x with
  | nil => exact rx
  | cons y l ih =>
    have hy := h y (List.mem_cons_self ..)
    have hl := fun b hb => h b (List.mem_cons_of_mem _ hb)
    have hn := sum_nonneg fun b hb => (hl b hb).1
    rw [sum_cons] at hs
    have hm := join_many hx hy.1 (by omega)
    exact ih (join_fits hx hy.1) (join_right hx hy.1 rx hy.2 (by omega)) hl (by omega)
theorem fold_join {x : Br} {l : List Br} (hx : Fits x) (rx : rightB x = true) (h : ∀ b ∈ l, Fits b ∧ rightB b = true) (hs : x.m + sumB l < 18446744073709551616) : l.foldl joinB x = joinB x (foldB l) := by
  induction l generalizing x with
  | nil => exact (join_none_right hx rx).symm
  | cons y l ih =>
    have hy := h y (List.mem_cons_self ..)
    have hl := fun b hb => h b (List.mem_cons_of_mem _ hb)
    have hlf := fun b hb => (hl b hb).1
    have hn := sum_nonneg hlf
    have mx := hx.m1
    have my := hy.1.m1
    rw [sum_cons] at hs
    have hm := join_many hx hy.1 (by omega)
    have e1 := ih (join_fits hx hy.1) (join_right hx hy.1 rx hy.2 (by omega)) hl (by omega)
    have e2 := ih hy.1 hy.2 hl (by omega)
    have hf := fold_from none_fits hlf (by show (0 : Int) + _ < _; omega)
    have hz : (none6).m = 0 := rfl
    have ha := join_assoc hx hy.1 hf.1 (by rw [hf.2, hz]; omega)
    show l.foldl joinB (joinB x y) = joinB x (l.foldl joinB (joinB none6 y))
    rw [join_none_left, e1, e2]
    exact ha
theorem fold_append {a b : List Br} (ha : ∀ x ∈ a, Fits x ∧ rightB x = true) (hb : ∀ x ∈ b, Fits x ∧ rightB x = true) (hs : sumB a + sumB b < 18446744073709551616) : foldB (a ++ b) = joinB (foldB a) (foldB b) := by
  have hn := sum_nonneg fun x hx => (hb x hx).1
  have hf := fold_from none_fits (fun x hx => (ha x hx).1) (by show (0 : Int) + _ < _; omega)
  have hz : (none6).m = 0 := rfl
  unfold foldB
  rw [List.foldl_append]
  refine fold_join hf.1 (fold_right none_fits rfl ha (by rw [hz]; omega)) hb ?_
  have h2 := hf.2
  rw [hz] at h2
  omega
theorem may_fold {q : Qu} (hq : QFits q) {x : Br} {l : List Br} (hx : Fits x) (h : ∀ b ∈ l, Fits b) (hs : x.m + sumB l < 18446744073709551616) (hm : mayB q x = true ∨ ∃ b ∈ l, mayB q b = true) : mayB q (l.foldl joinB x) = true := by
  induction l generalizing x with
  | nil =>
    rcases hm with hm | ⟨b, hb, _⟩
    · exact hm
    · cases hb
  | cons y l ih =>
    have hy := h y (List.mem_cons_self ..)
    have hl := fun b hb => h b (List.mem_cons_of_mem _ hb)
    have hn := sum_nonneg hl
    have mx := hx.m1
    have my := hy.m1
    rw [sum_cons] at hs
    have hj := join_many hx hy (by omega)
    refine ih (join_fits hx hy) hl (by omega) ?_
    rcases hm with hm | ⟨b, hb, hm⟩
    · exact .inl (may_join_left hq hx hy (by omega) hm)
    · rcases List.mem_cons.1 hb with rfl | hb
      · exact .inl (may_join_right hq hx hy (by omega) hm)
      · exact .inr ⟨b, hb, hm⟩
theorem sum_le_length {l : List Br} (h : ∀ b ∈ l, b.m ≤ 1) : sumB l ≤ l.length := by
  induction l with
  | nil => decide
  | cons x l ih =>
    have := h x (List.mem_cons_self ..)
    have := ih fun b hb => h b (List.mem_cons_of_mem _ hb)
    rw [sum_cons]
    simp only [List.length_cons]
    omega
theorem sum_take_succ (l : List Br) (k : Nat) (x : Br) (h : l[k]? = some x) : sumB (l.take (k + 1)) = sumB (l.take k) + x.m := by
  obtain ⟨hk, hx⟩ := List.getElem?_eq_some_iff.1 h
  rw [List.take_succ_eq_append_getElem hk, sum_append, hx]
  simp [sumB]
theorem fold_take_succ (l : List Br) (k : Nat) (x y : Br) (h : l[k]? = some x) : (l.take (k + 1)).foldl joinB y = joinB ((l.take k).foldl joinB y) x := by
  obtain ⟨hk, hx⟩ := List.getElem?_eq_some_iff.1 h
  rw [List.take_succ_eq_append_getElem hk, List.foldl_append, hx]
  rfl
end Go.Proofs.Ytloknemmodmkiaa
