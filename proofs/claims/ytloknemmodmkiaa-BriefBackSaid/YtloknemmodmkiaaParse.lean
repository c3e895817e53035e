/- Parse of a text: the brief whose text it is, if it is right; else that it isn't of the form. All memory that was there stays. No conditions. -/
import Derived.Test.YtloknemmodmkiaaTake
namespace Go.Proofs.Ytloknemmodmkiaa
open Go.ChangeShapes Go.WideShapes Go.ChangeAt Go.RowKit

/-- What Parse's variables hold: the answer, what is left of the text, the brief so far. -/
structure PAt (n₀ : Nat) (w W : World) (r : ByteArray) (b : Br) : Prop where
  box : Boxed W (n₀ + 1) 9 (.string r)
  var : Box6 W (n₀ + 1 + 1) b
  res : Box6 W n₀ none6
  bel : Below n₀ w W
theorem PAt.take {n₀ : Nat} {w W : World} {r : ByteArray} {b : Br} (h : PAt n₀ w W r b) (r' : ByteArray) : PAt n₀ w (W.setCell ⟨n₀ + 1, 0, none⟩ (.string r')) r' b :=
  ⟨h.box.set _, (Below.heap_setCell _ _ _ _ (show n₀ + 1 + 1 ≠ n₀ + 1 by omega)).trans h.var, (Below.heap_setCell _ _ _ _ (show n₀ ≠ n₀ + 1 by omega)).trans h.res, h.bel.setCell (p := ⟨n₀ + 1, 0, none⟩) (by simp) _⟩
theorem PAt.store {n₀ : Nat} {w W : World} {r : ByteArray} {b : Br} (h : PAt n₀ w W r b) (i : Nat) (v : Value) (b' : Br) (e : (#[.int .i64 b.f, .int .i64 b.l, .int .u32 b.g, .int .u32 b.r, .int .u64 b.m, .bool b.k] : Array Value).setIfInBounds i v = #[.int .i64 b'.f, .int .i64 b'.l, .int .u32 b'.g, .int .u32 b'.r, .int .u64 b'.m, .bool b'.k]) : PAt n₀ w (W.setCell ⟨n₀ + 1 + 1, i, none⟩ v) r b' := by
  refine ⟨(Below.heap_setCell _ _ _ _ (show n₀ + 1 ≠ n₀ + 1 + 1 by omega)).trans h.box, ?_, (Below.heap_setCell _ _ _ _ (show n₀ ≠ n₀ + 1 + 1 by omega)).trans h.res, h.bel.setCell (p := ⟨n₀ + 1 + 1, i, none⟩) (by simp; omega) _⟩
  have := cells_set h.var i v
  rw [e] at this
  exact this
theorem PAt.below {n₀ : Nat} {w W W' : World} {r : ByteArray} {b : Br} (h : PAt n₀ w W r b) (hb : Below W.heap.size W W') : PAt n₀ w W' r b :=
  ⟨(hb.block _ h.box.lt).trans h.box, h.var.below hb, h.res.below hb, h.bel.trans (hb.mono (by have := h.res.lt; omega))⟩

theorem pat_start (w : World) (s : ByteArray) : PAt w.heap.size w (((w.alloc (.cells #[.int .i64 0, .int .i64 0, .int .u32 0, .int .u32 0, .int .u64 0, .bool false] 30)).alloc (.cells #[.string s] 9)).alloc (.cells #[.int .i64 0, .int .i64 0, .int .u32 0, .int .u32 0, .int .u64 0, .bool false] 30)) s none6 := by
  have a1 := Box6.new w none6
  have a2 := Boxed.new (w.alloc (.cells #[.int .i64 0, .int .i64 0, .int .u32 0, .int .u32 0, .int .u64 0, .bool false] 30)) 9 (.string s)
  have a3 := Box6.new ((w.alloc (.cells #[.int .i64 0, .int .i64 0, .int .u32 0, .int .u32 0, .int .u64 0, .bool false] 30)).alloc (.cells #[.string s] 9)) none6
  rw [World.size_alloc] at a2
  rw [World.size_alloc, World.size_alloc] at a3
  exact ⟨a2.alloc _, a3, (a1.below (alloc_below _ _)).below (alloc_below _ _), ((alloc_below w _).alloc (by simp) _).alloc (by simp; omega) _⟩

theorem take_lit (n₀ : Nat) (w W : World) (r : ByteArray) (b : Br) (k : Nat) (ki : Int) (e : ki = (k : Int)) (h : PAt n₀ w W r b) (hk : k ≤ r.size) (h8 : k ≤ 8) (V : Nat) (hV : val ((nums r).take k) = V) (r' : ByteArray) (hr' : r.extract k r.size = r') :
    Calls Try.prog 26 #[.int .i64 ki, .pointer (some ⟨n₀ + 1, 0, none⟩)] W fun e w' => e = .returned (.int .u64 V) ∧ PAt n₀ w w' r' b := by
  subst e
  refine (take_at W (n₀ + 1) r k hk h8 h.box).mono fun e w' ⟨he, hw⟩ => ⟨by rw [he, hV], ?_⟩
  rw [hw, hr']
  exact h.take r'
theorem rest_is {s r : ByteArray} {o k : Nat} (h : nums r = (nums s).drop o) (hs : o + r.size = 33) (hk : k ≤ r.size) : nums (r.extract k r.size) = (nums s).drop (o + k) ∧ o + k + (r.extract k r.size).size = 33 := by
  constructor
  · rw [nums_extract, h, List.drop_drop, List.take_of_length_le]
    rw [List.length_drop, nums_length]
    have : (nums r).length = (nums s).length - o := by rw [h, List.length_drop]
    rw [nums_length, nums_length] at this
    omega
  · rw [ByteArray.size_extract]; omega
theorem sgn_wrap (n : Nat) (h : n < 18446744073709551616) : IntKind.i64.wrap (n : Int) = sgn n := by
  rw [IntKind.wrap_i64]; unfold sgn; split <;> omega
theorem u32_wrap (n : Nat) (h : n < 4294967296) : IntKind.u32.wrap (n : Int) = (n : Int) := by rw [IntKind.wrap_u32]; omega

/-- Is a text of 33 bytes that of a right brief? -/
def good (s : ByteArray) : Bool := rightB (readL (nums s)) && (textS (readL (nums s))).toList == s.toList

set_option maxRecDepth 100000 in
set_option maxHeartbeats 4000000 in
theorem parse_long (s : ByteArray) (w : World) (hs : s.size = 33) (x : Br) (c : Int) (hx : (good s = true ∧ x = readL (nums s) ∧ c = 0) ∨ (good s = false ∧ x = none6 ∧ c = 3)) :
    Calls Try.prog 20 #[.string s] w fun e w' => e = .returned (.tuple #[.agg #[.int .i64 x.f, .int .i64 x.l, .int .u32 x.g, .int .u32 x.r, .int .u64 x.m, .bool x.k], .int .i64 c]) ∧ Below w.heap.size w w' := by
  have hb := nums_bytes s
  have hlen : (nums s).length = 33 := by rw [nums_length, hs]
  have hv : ∀ (i j : Nat), val (((nums s).drop i).take j) < 256 ^ j := fun i j => Nat.lt_of_lt_of_le (val_lt _ (fun x hx => hb x (List.mem_of_mem_drop (List.mem_of_mem_take hx)))) (Nat.pow_le_pow_right (by decide) (List.length_take_le _ _))
  have c8 : (256 : Nat) ^ 8 = 18446744073709551616 := by decide
  have c4 : (256 : Nat) ^ 4 = 4294967296 := by decide
  obtain ⟨A, hA⟩ : ∃ A, val ((nums s).take 8) = A := ⟨_, rfl⟩
  obtain ⟨B, hB⟩ : ∃ A, val (((nums s).drop 8).take 8) = A := ⟨_, rfl⟩
  obtain ⟨C, hC⟩ : ∃ A, val (((nums s).drop 16).take 4) = A := ⟨_, rfl⟩
  obtain ⟨D, hD⟩ : ∃ A, val (((nums s).drop 20).take 4) = A := ⟨_, rfl⟩
  obtain ⟨E, hE⟩ : ∃ A, val (((nums s).drop 24).take 8) = A := ⟨_, rfl⟩
  obtain ⟨G, hG⟩ : ∃ A, val (((nums s).drop 32).take 1) = A := ⟨_, rfl⟩
  have hread : readL (nums s) = ⟨sgn A, sgn B, C, D, E, decide (G = 1)⟩ := by unfold readL; rw [hA, hB, hC, hD, hE, hG]
  have lA : A < 18446744073709551616 := by have := hv 0 8; rw [List.drop_zero, hA, c8] at this; exact this
  have lB : B < 18446744073709551616 := by have := hv 8 8; rw [hB, c8] at this; exact this
  have lC : C < 4294967296 := by have := hv 16 4; rw [hC, c4] at this; exact this
  have lD : D < 4294967296 := by have := hv 20 4; rw [hD, c4] at this; exact this
  have wA := sgn_wrap A lA
  have wB := sgn_wrap B lB
  have wC := u32_wrap C lC
  have wD := u32_wrap D lD
  have wG : ((G : Int) == 1) = decide (G = 1) := by rw [Bool.eq_iff_iff]; simp; omega
  have hfit : Fits (readL (nums s)) := read_fits _ hb
  obtain ⟨K, hK⟩ : ∃ K, decide (G = 1) = K := ⟨_, rfl⟩
  rw [hread, hK] at hfit
  rw [hK] at wG
  obtain ⟨r1, h1⟩ : ∃ r, s.extract 8 s.size = r := ⟨_, rfl⟩
  obtain ⟨r2, h2⟩ : ∃ r, r1.extract 8 r1.size = r := ⟨_, rfl⟩
  obtain ⟨r3, h3⟩ : ∃ r, r2.extract 4 r2.size = r := ⟨_, rfl⟩
  obtain ⟨r4, h4⟩ : ∃ r, r3.extract 4 r3.size = r := ⟨_, rfl⟩
  obtain ⟨r5, h5⟩ : ∃ r, r4.extract 8 r4.size = r := ⟨_, rfl⟩
  obtain ⟨r6, h6⟩ : ∃ r, r5.extract 1 r5.size = r := ⟨_, rfl⟩
  obtain ⟨n1, z1⟩ := rest_is (s := s) (r := s) (o := 0) (k := 8) (by simp) (by omega) (by omega)
  rw [h1, Nat.zero_add] at n1 z1
  obtain ⟨n2, z2⟩ := rest_is (k := 8) n1 z1 (by omega)
  rw [h2] at n2 z2
  obtain ⟨n3, z3⟩ := rest_is (k := 4) n2 z2 (by omega)
  rw [h3] at n3 z3
  obtain ⟨n4, z4⟩ := rest_is (k := 4) n3 z3 (by omega)
  rw [h4] at n4 z4
  obtain ⟨n5, z5⟩ := rest_is (k := 8) n4 z4 (by omega)
  rw [h5] at n5 z5
  have T1 := Lib.hid (fun (W : World) (b : Br) (h : PAt w.heap.size w W s b) => take_lit w.heap.size w W s b 8 8 rfl h (by omega) (by omega) A hA r1 h1)
  have T2 := Lib.hid (fun (W : World) (b : Br) (h : PAt w.heap.size w W r1 b) => take_lit w.heap.size w W r1 b 8 8 rfl h (by omega) (by omega) B (by rw [n1]; exact hB) r2 h2)
  have T3 := Lib.hid (fun (W : World) (b : Br) (h : PAt w.heap.size w W r2 b) => take_lit w.heap.size w W r2 b 4 4 rfl h (by omega) (by omega) C (by rw [n2]; exact hC) r3 h3)
  have T4 := Lib.hid (fun (W : World) (b : Br) (h : PAt w.heap.size w W r3 b) => take_lit w.heap.size w W r3 b 4 4 rfl h (by omega) (by omega) D (by rw [n3]; exact hD) r4 h4)
  have T5 := Lib.hid (fun (W : World) (b : Br) (h : PAt w.heap.size w W r4 b) => take_lit w.heap.size w W r4 b 8 8 rfl h (by omega) (by omega) E (by rw [n4]; exact hE) r5 h5)
  have T6 := Lib.hid (fun (W : World) (b : Br) (h : PAt w.heap.size w W r5 b) => take_lit w.heap.size w W r5 b 1 1 rfl h (by omega) (by omega) G (by rw [n5]; exact hG) r6 h6)
  have HX := Lib.hid hx
  have HREAD := Lib.hid hread
  have HK := Lib.hid hK
  have n33 : (((s.size : Nat) : Int) != 33) = false := by rw [hs]; rfl
  clear hA hB hC hD hE hG hv c8 c4 hb hlen h1 h2 h3 h4 h5 h6 n1 n2 n3 n4 n5 z1 z2 z3 z4 z5 hx hread hK lA lB lC lD hs
  go_enter Try.func20, Try.ntmps20
  go_wp2_with fail
  refine (T1.out _ none6 (pat_start w s)).mono ?_
  rintro e W1 ⟨rfl, P1⟩
  go_wp2_with fail
  refine (T2.out _ _ P1).mono ?_
  rintro e W2 ⟨rfl, P2⟩
  obtain ⟨c0, c1, c2, c3, c4, c5⟩ := P2.var.cells
  have hf := fun o => P2.var.frozen o
  have P3 := (P2.store 0 (.int .i64 (sgn A)) ⟨sgn A, 0, 0, 0, 0, false⟩ rfl).store 1 (.int .i64 (sgn B)) ⟨sgn A, sgn B, 0, 0, 0, false⟩ rfl
  clear P1 P2
  go_wp2_with fail
  refine (T3.out _ _ P3).mono ?_
  rintro e W3 ⟨rfl, P4⟩
  clear P3 c0 c1 c2 c3 c4 c5 hf
  go_wp2_with fail
  refine (T4.out _ _ P4).mono ?_
  rintro e W4 ⟨rfl, P5⟩
  obtain ⟨c0, c1, c2, c3, c4, c5⟩ := P5.var.cells
  have hf := fun o => P5.var.frozen o
  have P6 := (P5.store 2 (.int .u32 C) ⟨sgn A, sgn B, C, 0, 0, false⟩ rfl).store 3 (.int .u32 D) ⟨sgn A, sgn B, C, D, 0, false⟩ rfl
  clear P4 P5
  go_wp2_with fail
  refine (T5.out _ _ P6).mono ?_
  rintro e W5 ⟨rfl, P7⟩
  clear P6 c0 c1 c2 c3 c4 c5 hf
  go_wp2_with fail
  refine (T6.out _ _ P7).mono ?_
  rintro e W6 ⟨rfl, P8⟩
  obtain ⟨c0, c1, c2, c3, c4, c5⟩ := P8.var.cells
  have hf := fun o => P8.var.frozen o
  have P9 := (P8.store 4 (.int .u64 E) ⟨sgn A, sgn B, C, D, E, false⟩ rfl).store 5 (.bool K) ⟨sgn A, sgn B, C, D, E, K⟩ rfl
  obtain ⟨d0, d1, d2, d3, d4, d5⟩ := P9.var.cells
  clear P7 P8
  obtain ⟨R, hR⟩ : ∃ R, rightB ⟨sgn A, sgn B, C, D, E, K⟩ = R := ⟨_, rfl⟩
  have HR := Lib.hid (fun W => right_R ⟨sgn A, sgn B, C, D, E, K⟩ hfit R hR W)
  have HT := Lib.hid (fun W => text_R ⟨sgn A, sgn B, C, D, E, K⟩ hfit W)
  have HRR := Lib.hid hR
  clear hR
  go_wp2_with fail
  refine (HR.out _).mono ?_
  rintro e W7 ⟨rfl, hb7⟩
  have P10 := P9.below hb7
  clear P9 hb7 c0 c1 c2 c3 c4 c5 hf d0 d1 d2 d3 d4 d5
  have hgood : good s = (R && ((textS ⟨sgn A, sgn B, C, D, E, K⟩).toList == s.toList)) := by unfold good; rw [HREAD.out, HK.out, HRR.out]
  have HG := Lib.hid hgood
  clear hgood
  cases R
  case false =>
    obtain ⟨rfl, rfl⟩ : x = none6 ∧ c = 3 := by
      rcases HX.out with ⟨h, _⟩ | ⟨_, h1, h2⟩
      · rw [HG.out] at h; cases h
      · exact ⟨h1, h2⟩
    clear HX HG HREAD HK HRR
    go_wp2_with fail
    refine (none_any _).mono ?_
    rintro e W9 ⟨rfl, hb9⟩
    have P12 := P10.below hb9
    clear P10 hb9
    obtain ⟨c0, c1, c2, c3, c4, c5⟩ := P12.res.cells
    have hf := fun o => P12.res.frozen o
    have HP := Lib.hid P12
    clear P12
    go_wp2
    refine bodyPost_ret (v := .tuple #[.agg #[.int .i64 0, .int .i64 0, .int .u32 0, .int .u32 0, .int .u64 0, .bool false], .int .i64 3]) ?_ rfl ⟨rfl, store6 HP.out.bel (Nat.le_refl _) _ _ _ _ _ _⟩
    have hq := (HP.out.res.set ⟨0, 0, 0, 0, 0, false⟩).cells
    simp only at hq
    obtain ⟨q0, q1, q2, q3, q4, q5⟩ := hq
    simp [results, Try.results20, go_sem, q0, q1, q2, q3, q4, q5]
  case true =>
    obtain ⟨T, hT⟩ : ∃ T, ((textS ⟨sgn A, sgn B, C, D, E, K⟩).toList == s.toList) = T := ⟨_, rfl⟩
    have hT2 : ((textS ⟨sgn A, sgn B, C, D, E, K⟩).toList != s.toList) = !T := by rw [bne, hT]
    have hg2 := HG.out
    rw [hT, Bool.true_and] at hg2
    obtain ⟨d0, d1, d2, d3, d4, d5⟩ := P10.var.cells
    have HT1 := Lib.hid hT
    have HG2 := Lib.hid hg2
    clear hT hg2 HG
    go_wp2_with fail
    refine (HT.out _).mono ?_
    rintro e W8 ⟨rfl, hb8⟩
    have P11 := P10.below hb8
    clear P10 hb8 d0 d1 d2 d3 d4 d5
    have hT3 := HT1.out
    cases T
    case false =>
      obtain ⟨rfl, rfl⟩ : x = none6 ∧ c = 3 := by
        rcases HX.out with ⟨h, _⟩ | ⟨_, h1, h2⟩
        · rw [HG2.out] at h; cases h
        · exact ⟨h1, h2⟩
      clear HX HG2 HREAD HK HRR
      go_wp2_with fail
      refine (none_any _).mono ?_
      rintro e W9 ⟨rfl, hb9⟩
      have P12 := P11.below hb9
      clear P11 hb9
      obtain ⟨c0, c1, c2, c3, c4, c5⟩ := P12.res.cells
      have hf := fun o => P12.res.frozen o
      have HP := Lib.hid P12
      clear P12
      go_wp2
      refine bodyPost_ret (v := .tuple #[.agg #[.int .i64 0, .int .i64 0, .int .u32 0, .int .u32 0, .int .u64 0, .bool false], .int .i64 3]) ?_ rfl ⟨rfl, store6 HP.out.bel (Nat.le_refl _) _ _ _ _ _ _⟩
      have hq := (HP.out.res.set ⟨0, 0, 0, 0, 0, false⟩).cells
      simp only at hq
      obtain ⟨q0, q1, q2, q3, q4, q5⟩ := hq
      simp [results, Try.results20, go_sem, q0, q1, q2, q3, q4, q5]
    case true =>
      obtain ⟨rfl, rfl⟩ : x = ⟨sgn A, sgn B, C, D, E, K⟩ ∧ c = 0 := by
        rcases HX.out with ⟨_, h1, h2⟩ | ⟨h, _⟩
        · rw [HREAD.out, HK.out] at h1; exact ⟨h1, h2⟩
        · rw [HG2.out] at h; cases h
      clear HX HG2 HREAD HK HRR
      obtain ⟨c0, c1, c2, c3, c4, c5⟩ := P11.res.cells
      have hf := fun o => P11.res.frozen o
      obtain ⟨d0, d1, d2, d3, d4, d5⟩ := P11.var.cells
      have HP := Lib.hid P11
      clear P11
      go_wp2
      refine bodyPost_ret (v := .tuple #[.agg #[.int .i64 (sgn A), .int .i64 (sgn B), .int .u32 C, .int .u32 D, .int .u64 E, .bool K], .int .i64 0]) ?_ rfl ⟨rfl, store6 HP.out.bel (Nat.le_refl _) _ _ _ _ _ _⟩
      have hq := (HP.out.res.set ⟨sgn A, sgn B, C, D, E, K⟩).cells
      simp only at hq
      obtain ⟨q0, q1, q2, q3, q4, q5⟩ := hq
      simp [results, Try.results20, go_sem, q0, q1, q2, q3, q4, q5]

theorem parse_short (s : ByteArray) (w : World) (hs : s.size ≠ 33) :
    Calls Try.prog 20 #[.string s] w fun e w' => e = .returned (.tuple #[.agg #[.int .i64 0, .int .i64 0, .int .u32 0, .int .u32 0, .int .u64 0, .bool false], .int .i64 3]) ∧ Below w.heap.size w w' := by
  have n33 : (((s.size : Nat) : Int) != 33) = true := by rw [bne_iff_ne]; omega
  clear hs
  go_enter Try.func20, Try.ntmps20
  go_wp2_with fail
  refine (none_any _).mono ?_
  rintro e W9 ⟨rfl, hb9⟩
  have r9 : Box6 W9 w.heap.size none6 := (Box6.new w none6).below hb9
  have B9 : Below w.heap.size w W9 := (alloc_below w _).trans (hb9.mono (by simp))
  clear hb9
  obtain ⟨c0, c1, c2, c3, c4, c5⟩ := r9.cells
  have hf := fun o => r9.frozen o
  have HP := Lib.hid r9
  clear r9
  go_wp2
  refine bodyPost_ret (v := .tuple #[.agg #[.int .i64 0, .int .i64 0, .int .u32 0, .int .u32 0, .int .u64 0, .bool false], .int .i64 3]) ?_ rfl ⟨rfl, store6 B9 (Nat.le_refl _) _ _ _ _ _ _⟩
  have hq := (HP.out.set ⟨0, 0, 0, 0, 0, false⟩).cells
  simp only at hq
  obtain ⟨q0, q1, q2, q3, q4, q5⟩ := hq
  simp [results, Try.results20, go_sem, q0, q1, q2, q3, q4, q5]
/-- What Parse answers. -/
def parseX (s : ByteArray) : Br × Int := if s.size = 33 ∧ good s = true then (readL (nums s), 0) else (none6, 3)
theorem parse_any (s : ByteArray) (w : World) : Calls Try.prog 20 #[.string s] w fun e w' => e = .returned (.tuple #[.agg #[.int .i64 (parseX s).1.f, .int .i64 (parseX s).1.l, .int .u32 (parseX s).1.g, .int .u32 (parseX s).1.r, .int .u64 (parseX s).1.m, .bool (parseX s).1.k], .int .i64 (parseX s).2]) ∧ Below w.heap.size w w' := by
  by_cases hs : s.size = 33
  · refine parse_long s w hs _ _ ?_
    unfold parseX
    by_cases hg : good s = true
    · rw [if_pos ⟨hs, hg⟩]; exact .inl ⟨hg, rfl, rfl⟩
    · rw [if_neg (fun h => hg h.2)]; exact .inr ⟨by simpa using hg, rfl, rfl⟩
  · have e : parseX s = (none6, 3) := by unfold parseX; rw [if_neg (fun h => hs h.1)]
    rw [e]
    exact parse_short s w hs
end Go.Proofs.Ytloknemmodmkiaa
