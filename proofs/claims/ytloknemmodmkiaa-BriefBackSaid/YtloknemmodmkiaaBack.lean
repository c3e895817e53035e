/-
  BriefBack returns true for every two briefs and every text: a right brief's text is parsed as it; two briefs' texts are the same just if they are; what is parsed is right, and its text.
  Conditions: none (every input).
-/
import Derived.Test.YtloknemmodmkiaaParse
import Derived.Test.YtloknemmodmkiaaRef
import Derived.Test.YtloknemmodmkiaaOpen
import Derived.Deep.RegionWith
namespace Go.Proofs.Ytloknemmodmkiaa.briefBack
open Go.ChangeShapes Go.WideShapes Go.ChangeAt Go.RowKit Go.Joins

/-- Cells of three blocks stay, whatever is made behind them. -/
theorem next18 {w0 W W' : World} {x y z : Nat} {c0 c1 c2 c3 c4 c5 c6 c7 c8 c9 c10 c11 c12 c13 c14 c15 c16 c17 : Value} (l0 : x < w0.heap.size) (l1 : y < w0.heap.size) (l2 : z < w0.heap.size) (h : W.cell? ⟨x, 0, none⟩ = some (c0) ∧ W.cell? ⟨x, 1, none⟩ = some (c1) ∧ W.cell? ⟨x, 2, none⟩ = some (c2) ∧ W.cell? ⟨x, 3, none⟩ = some (c3) ∧ W.cell? ⟨x, 4, none⟩ = some (c4) ∧ W.cell? ⟨x, 5, none⟩ = some (c5) ∧ W.cell? ⟨y, 0, none⟩ = some (c6) ∧ W.cell? ⟨y, 1, none⟩ = some (c7) ∧ W.cell? ⟨y, 2, none⟩ = some (c8) ∧ W.cell? ⟨y, 3, none⟩ = some (c9) ∧ W.cell? ⟨y, 4, none⟩ = some (c10) ∧ W.cell? ⟨y, 5, none⟩ = some (c11) ∧ W.cell? ⟨z, 0, none⟩ = some (c12) ∧ W.cell? ⟨z, 1, none⟩ = some (c13) ∧ W.cell? ⟨z, 2, none⟩ = some (c14) ∧ W.cell? ⟨z, 3, none⟩ = some (c15) ∧ W.cell? ⟨z, 4, none⟩ = some (c16) ∧ W.cell? ⟨z, 5, none⟩ = some (c17) ∧ Below w0.heap.size w0 W) (hb : Below W.heap.size W W') : W'.cell? ⟨x, 0, none⟩ = some (c0) ∧ W'.cell? ⟨x, 1, none⟩ = some (c1) ∧ W'.cell? ⟨x, 2, none⟩ = some (c2) ∧ W'.cell? ⟨x, 3, none⟩ = some (c3) ∧ W'.cell? ⟨x, 4, none⟩ = some (c4) ∧ W'.cell? ⟨x, 5, none⟩ = some (c5) ∧ W'.cell? ⟨y, 0, none⟩ = some (c6) ∧ W'.cell? ⟨y, 1, none⟩ = some (c7) ∧ W'.cell? ⟨y, 2, none⟩ = some (c8) ∧ W'.cell? ⟨y, 3, none⟩ = some (c9) ∧ W'.cell? ⟨y, 4, none⟩ = some (c10) ∧ W'.cell? ⟨y, 5, none⟩ = some (c11) ∧ W'.cell? ⟨z, 0, none⟩ = some (c12) ∧ W'.cell? ⟨z, 1, none⟩ = some (c13) ∧ W'.cell? ⟨z, 2, none⟩ = some (c14) ∧ W'.cell? ⟨z, 3, none⟩ = some (c15) ∧ W'.cell? ⟨z, 4, none⟩ = some (c16) ∧ W'.cell? ⟨z, 5, none⟩ = some (c17) ∧ Below w0.heap.size w0 W' := by
  obtain ⟨s0, s1, s2, s3, s4, s5, s6, s7, s8, s9, s10, s11, s12, s13, s14, s15, s16, s17, sb⟩ := h
  have hc := (bcell hb).1
  exact ⟨(hc _ _ (Nat.lt_of_lt_of_le l0 sb.size)).trans s0, (hc _ _ (Nat.lt_of_lt_of_le l0 sb.size)).trans s1, (hc _ _ (Nat.lt_of_lt_of_le l0 sb.size)).trans s2, (hc _ _ (Nat.lt_of_lt_of_le l0 sb.size)).trans s3, (hc _ _ (Nat.lt_of_lt_of_le l0 sb.size)).trans s4, (hc _ _ (Nat.lt_of_lt_of_le l0 sb.size)).trans s5, (hc _ _ (Nat.lt_of_lt_of_le l1 sb.size)).trans s6, (hc _ _ (Nat.lt_of_lt_of_le l1 sb.size)).trans s7, (hc _ _ (Nat.lt_of_lt_of_le l1 sb.size)).trans s8, (hc _ _ (Nat.lt_of_lt_of_le l1 sb.size)).trans s9, (hc _ _ (Nat.lt_of_lt_of_le l1 sb.size)).trans s10, (hc _ _ (Nat.lt_of_lt_of_le l1 sb.size)).trans s11, (hc _ _ (Nat.lt_of_lt_of_le l2 sb.size)).trans s12, (hc _ _ (Nat.lt_of_lt_of_le l2 sb.size)).trans s13, (hc _ _ (Nat.lt_of_lt_of_le l2 sb.size)).trans s14, (hc _ _ (Nat.lt_of_lt_of_le l2 sb.size)).trans s15, (hc _ _ (Nat.lt_of_lt_of_le l2 sb.size)).trans s16, (hc _ _ (Nat.lt_of_lt_of_le l2 sb.size)).trans s17, sb.trans (hb.mono sb.size)⟩

theorem own_text (a : Br) (h : Fits a) (h' : Fits64 a) : parseX (textS a) = if rightB a = true then (a, 0) else (none6, 3) := by
  unfold parseX good
  rw [textS_read a h h', textS_size a h]
  simp
theorem good_is {s : ByteArray} (h : (parseX s).2 = 0) : rightB (parseX s).1 = true ∧ (textS (parseX s).1).toList = s.toList ∧ Fits (parseX s).1 := by
  unfold parseX at *
  split
  · rename_i hc
    have hg := hc.2
    unfold good at hg
    rw [Bool.and_eq_true, beq_iff_eq] at hg
    exact ⟨hg.1, hg.2, read_fits _ (nums_bytes s)⟩
  · rename_i hc
    rw [if_neg hc] at h
    exact absurd h (by decide)
theorem text_eq (a b : Br) (ha : Fits a) (ha' : Fits64 a) (hb : Fits b) (hb' : Fits64 b) : ((textS a).toList == (textS b).toList) = decide (a = b) := by
  by_cases h : a = b
  · subst h; simp
  · rw [decide_eq_false h, beq_eq_false_iff_ne]
    intro k
    exact h (textS_inj a b ha ha' hb hb' (by rw [ByteArray.toList_eq, ByteArray.toList_eq] at k; exact ByteArray.ext (Array.toList_inj.mp k)))

set_option maxRecDepth 100000 in
set_option maxHeartbeats 4000000 in
theorem walk (a b : Br) (s : ByteArray) (w : World) (ha : Fits a) (ha' : Fits64 a) (hb : Fits b) (hb' : Fits64 b) :
    Calls Try.prog 6 #[.agg #[.int .i64 a.f, .int .i64 a.l, .int .u32 a.g, .int .u32 a.r, .int .u64 a.m, .bool a.k], .agg #[.int .i64 b.f, .int .i64 b.l, .int .u32 b.g, .int .u32 b.r, .int .u64 b.m, .bool b.k], .string s] w fun e w' => e = .returned (.bool true) ∧ Below w.heap.size w w' := by
  obtain ⟨R, hR⟩ : ∃ R, rightB a = R := ⟨_, rfl⟩
  obtain ⟨x, c, hxc⟩ : ∃ x c, parseX (textS a) = (x, c) := ⟨_, _, rfl⟩
  have hx : (R = true ∧ x = a ∧ c = 0) ∨ (R = false ∧ c = 3) := by
    have h := own_text a ha ha'
    rw [hxc, hR] at h
    cases R
    · exact .inr ⟨rfl, by have := congrArg Prod.snd h; simpa using this⟩
    · exact .inl ⟨rfl, by have := congrArg Prod.fst h; simpa using this, by have := congrArg Prod.snd h; simpa using this⟩
  obtain ⟨Q, hQ⟩ : ∃ Q, decide (a = b) = Q := ⟨_, rfl⟩
  have hsz := textS_size a ha
  have hTQ : ((textS a).toList == (textS b).toList) = Q := by rw [text_eq a b ha ha' hb hb', hQ]
  have hE : ∀ W, (Op.equalIn 10000 30 (.agg #[.int .i64 a.f, .int .i64 a.l, .int .u32 a.g, .int .u32 a.r, .int .u64 a.m, .bool a.k]) (.agg #[.int .i64 b.f, .int .i64 b.l, .int .u32 b.g, .int .u32 b.r, .int .u64 b.m, .bool b.k])).run Try.prog W = .ok Q W := fun W => by rw [eq30, hQ]
  have hEa : ∀ W, (Op.equalIn 10000 30 (.agg #[.int .i64 a.f, .int .i64 a.l, .int .u32 a.g, .int .u32 a.r, .int .u64 a.m, .bool a.k]) (.agg #[.int .i64 a.f, .int .i64 a.l, .int .u32 a.g, .int .u32 a.r, .int .u64 a.m, .bool a.k])).run Try.prog W = .ok true W := fun W => by rw [eq30, decide_eq_true rfl]
  have HR := Lib.hid (fun W => right_R a ha R hR W)
  have HA := Lib.hid (fun W => text_R a ha W)
  have HT := Lib.hid (fun W => text_R b hb W)
  have HP : Hid (∀ W, Calls Try.prog 20 #[.string (textS a)] W fun e w' => e = .returned (.tuple #[.agg #[.int .i64 x.f, .int .i64 x.l, .int .u32 x.g, .int .u32 x.r, .int .u64 x.m, .bool x.k], .int .i64 c]) ∧ Below W.heap.size W w') := Lib.hid fun W => by
    have h := parse_any (textS a) W
    rw [hxc] at h
    exact h
  obtain ⟨y, d, hyd⟩ : ∃ y d, parseX s = (y, d) := ⟨_, _, rfl⟩
  have HP2 : Hid (∀ W, Calls Try.prog 20 #[.string s] W fun e w' => e = .returned (.tuple #[.agg #[.int .i64 y.f, .int .i64 y.l, .int .u32 y.g, .int .u32 y.r, .int .u64 y.m, .bool y.k], .int .i64 d]) ∧ Below W.heap.size W w') := Lib.hid fun W => by
    have h := parse_any s W
    rw [hyd] at h
    exact h
  have hd : d = 0 ∨ d = 3 := by
    have h : (parseX s).2 = 0 ∨ (parseX s).2 = 3 := by unfold parseX; split <;> simp
    rw [hyd] at h
    exact h
  have HG : d = 0 → rightB y = true ∧ (textS y).toList = s.toList ∧ Fits y := fun h => by
    have := good_is (s := s) (by rw [hyd]; exact h)
    rw [hyd] at this
    exact this
  have HGG := Lib.hid HG
  generalize textS a = ta at *
  generalize textS b = tb at *
  have hsz2 : (((ta.size : Nat) : Int) != 33) = false := by rw [hsz]; rfl
  have HD := Lib.hid hd
  have HXX := Lib.hid hx
  clear hR hxc hx hQ hsz hyd HG ha ha' hb hb' hd
  have hgd := Try.eqGuardType30
  go_enter Try.func6, Try.ntmps6
  go_wp2_with fail
  refine (shown_any _).mono ?_
  rintro e w2 ⟨rfl, hb2⟩
  have a2 : Box6 w2 w.heap.size a := ((Box6.new w a).below (alloc_below _ _)).below hb2
  have b2 : Box6 w2 (w.heap.size + 1) b := by
    have h := (Box6.new (w.alloc (.cells #[.int .i64 a.f, .int .i64 a.l, .int .u32 a.g, .int .u32 a.r, .int .u64 a.m, .bool a.k] 30)) b).below hb2
    rw [World.size_alloc] at h
    exact h
  have B2 : Below w.heap.size w w2 := ((alloc_below w _).alloc (by simp) _).trans (hb2.mono (by simp; omega))
  clear hb2
  obtain ⟨c0, c1, c2, c3, c4, c5⟩ := a2.cells
  go_wp2_with fail
  refine (HA.out _).mono ?_
  rintro e w3 ⟨rfl, hb3⟩
  have a3 := a2.below hb3
  have b3 := b2.below hb3
  have B3 := B2.trans (hb3.mono B2.size)
  clear hb3 a2 b2 B2 c0 c1 c2 c3 c4 c5
  go_wp2_with fail
  refine (HP.out _).mono ?_
  rintro e w4 ⟨rfl, hb4⟩
  have a4 := a3.below hb4
  have b4 := b3.below hb4
  have B4 := B3.trans (hb4.mono B3.size)
  clear hb4 a3 b3 B3
  obtain ⟨W5, hW5⟩ : ∃ W5, w4.alloc (.cells #[.int .i64 x.f, .int .i64 x.l, .int .u32 x.g, .int .u32 x.r, .int .u64 x.m, .bool x.k] 30) = W5 := ⟨_, rfl⟩
  have a5 : Box6 W5 w.heap.size a := by rw [← hW5]; exact a4.below (alloc_below _ _)
  have b5 : Box6 W5 (w.heap.size + 1) b := by rw [← hW5]; exact b4.below (alloc_below _ _)
  have x5 : Box6 W5 w4.heap.size x := by rw [← hW5]; exact Box6.new w4 x
  have B5 : Below w.heap.size w W5 := by rw [← hW5]; exact B4.trans ((alloc_below w4 _).mono B4.size)
  clear a4 b4 B4
  have u0 := a5.lt
  have u1 := b5.lt
  have u2 := x5.lt
  have S0 : W5.drew.cell? ⟨w.heap.size, 0, none⟩ = some (.int .i64 a.f) ∧ W5.drew.cell? ⟨w.heap.size, 1, none⟩ = some (.int .i64 a.l) ∧ W5.drew.cell? ⟨w.heap.size, 2, none⟩ = some (.int .u32 a.g) ∧ W5.drew.cell? ⟨w.heap.size, 3, none⟩ = some (.int .u32 a.r) ∧ W5.drew.cell? ⟨w.heap.size, 4, none⟩ = some (.int .u64 a.m) ∧ W5.drew.cell? ⟨w.heap.size, 5, none⟩ = some (.bool a.k) ∧ W5.drew.cell? ⟨w.heap.size + 1, 0, none⟩ = some (.int .i64 b.f) ∧ W5.drew.cell? ⟨w.heap.size + 1, 1, none⟩ = some (.int .i64 b.l) ∧ W5.drew.cell? ⟨w.heap.size + 1, 2, none⟩ = some (.int .u32 b.g) ∧ W5.drew.cell? ⟨w.heap.size + 1, 3, none⟩ = some (.int .u32 b.r) ∧ W5.drew.cell? ⟨w.heap.size + 1, 4, none⟩ = some (.int .u64 b.m) ∧ W5.drew.cell? ⟨w.heap.size + 1, 5, none⟩ = some (.bool b.k) ∧ W5.drew.cell? ⟨w4.heap.size, 0, none⟩ = some (.int .i64 x.f) ∧ W5.drew.cell? ⟨w4.heap.size, 1, none⟩ = some (.int .i64 x.l) ∧ W5.drew.cell? ⟨w4.heap.size, 2, none⟩ = some (.int .u32 x.g) ∧ W5.drew.cell? ⟨w4.heap.size, 3, none⟩ = some (.int .u32 x.r) ∧ W5.drew.cell? ⟨w4.heap.size, 4, none⟩ = some (.int .u64 x.m) ∧ W5.drew.cell? ⟨w4.heap.size, 5, none⟩ = some (.bool x.k) ∧ Below W5.heap.size W5 W5.drew := by
    obtain ⟨p0, p1, p2, p3, p4, p5⟩ := a5.cells
    obtain ⟨q0, q1, q2, q3, q4, q5⟩ := b5.cells
    obtain ⟨r0, r1, r2, r3, r4, r5⟩ := x5.cells
    exact ⟨p0, p1, p2, p3, p4, p5, q0, q1, q2, q3, q4, q5, r0, r1, r2, r3, r4, r5, drew_below W5⟩
  clear a5 b5 x5
  have key : ∀ W8, Below W5.heap.size W5 W8 → Below w.heap.size w W8 := fun W8 h => B5.trans (h.mono B5.size)
  rcases HXX.out with ⟨rfl, hxa, rfl⟩ | ⟨rfl, rfl⟩
  · subst x
    clear HXX
    go_wp2_with fail
    clear hW5
    go_region_held3 (fun w' => w'.cell? ⟨w.heap.size, 0, none⟩ = some (.int .i64 a.f) ∧ w'.cell? ⟨w.heap.size, 1, none⟩ = some (.int .i64 a.l) ∧ w'.cell? ⟨w.heap.size, 2, none⟩ = some (.int .u32 a.g) ∧ w'.cell? ⟨w.heap.size, 3, none⟩ = some (.int .u32 a.r) ∧ w'.cell? ⟨w.heap.size, 4, none⟩ = some (.int .u64 a.m) ∧ w'.cell? ⟨w.heap.size, 5, none⟩ = some (.bool a.k) ∧ w'.cell? ⟨w.heap.size + 1, 0, none⟩ = some (.int .i64 b.f) ∧ w'.cell? ⟨w.heap.size + 1, 1, none⟩ = some (.int .i64 b.l) ∧ w'.cell? ⟨w.heap.size + 1, 2, none⟩ = some (.int .u32 b.g) ∧ w'.cell? ⟨w.heap.size + 1, 3, none⟩ = some (.int .u32 b.r) ∧ w'.cell? ⟨w.heap.size + 1, 4, none⟩ = some (.int .u64 b.m) ∧ w'.cell? ⟨w.heap.size + 1, 5, none⟩ = some (.bool b.k) ∧ w'.cell? ⟨w4.heap.size, 0, none⟩ = some (.int .i64 a.f) ∧ w'.cell? ⟨w4.heap.size, 1, none⟩ = some (.int .i64 a.l) ∧ w'.cell? ⟨w4.heap.size, 2, none⟩ = some (.int .u32 a.g) ∧ w'.cell? ⟨w4.heap.size, 3, none⟩ = some (.int .u32 a.r) ∧ w'.cell? ⟨w4.heap.size, 4, none⟩ = some (.int .u64 a.m) ∧ w'.cell? ⟨w4.heap.size, 5, none⟩ = some (.bool a.k) ∧ Below W5.heap.size W5 w')
        (first
          | assumption
          | exact next18 u0 u1 u2 S0 (by assumption)
          | exact next18 u0 u1 u2 (by assumption) (by assumption)
          | exact S0)
        (first
          | (go_at_call 16; (with_reducible refine (HR.out _).mono ?_); rintro e w' ⟨rfl, hb⟩)
          | (go_at_call 19; (with_reducible refine (HT.out _).mono ?_); rintro e w' ⟨rfl, hb⟩))
    rename_i HS
    have B8 := key _ HS.2.2.2.2.2.2.2.2.2.2.2.2.2.2.2.2.2.2
    clear HS S0
    go_wp2_with fail
    refine (HP2.out _).mono ?_
    rintro e W9 ⟨rfl, hb9⟩
    have B9 := B8.trans (hb9.mono B8.size)
    clear hb9 B8
    rcases HD.out with rfl | rfl
    · obtain ⟨hry, hty, hfy⟩ := HGG.out rfl
      have HY := Lib.hid (fun W => right_R y hfy true hry W)
      have HTY := Lib.hid (fun W => text_R y hfy W)
      have hte : ((textS y).toList == s.toList) = true := beq_iff_eq.2 hty
      have y10 := Box6.new W9 y
      clear hry hty hfy
      go_wp2_with fail
      refine (HY.out _).mono ?_
      rintro e W10 ⟨rfl, hb10⟩
      have y11 := y10.below hb10
      have B10 := (B9.trans ((alloc_below W9 _).mono B9.size)).trans (hb10.mono (by have := B9.size; simp; omega))
      clear hb10 y10
      obtain ⟨e0, e1, e2, e3, e4, e5⟩ := y11.cells
      clear y11
      go_wp2_with fail
      refine (HTY.out _).mono ?_
      rintro e W11 ⟨rfl, hb11⟩
      have B11 := B10.trans (hb11.mono B10.size)
      clear hb11
      go_wp2
      go_ret
      exact ⟨rfl, B11⟩
    · have B10 := B9.trans ((alloc_below W9 (.cells #[.int .i64 y.f, .int .i64 y.l, .int .u32 y.g, .int .u32 y.r, .int .u64 y.m, .bool y.k] 30)).mono B9.size)
      clear B9
      go_wp2
      go_ret
      exact ⟨rfl, B10⟩
  · clear HXX
    go_wp2_with fail
    clear hW5
    refine wp_region_held_drew (S := fun w' => w'.cell? ⟨w.heap.size, 0, none⟩ = some (.int .i64 a.f) ∧ w'.cell? ⟨w.heap.size, 1, none⟩ = some (.int .i64 a.l) ∧ w'.cell? ⟨w.heap.size, 2, none⟩ = some (.int .u32 a.g) ∧ w'.cell? ⟨w.heap.size, 3, none⟩ = some (.int .u32 a.r) ∧ w'.cell? ⟨w.heap.size, 4, none⟩ = some (.int .u64 a.m) ∧ w'.cell? ⟨w.heap.size, 5, none⟩ = some (.bool a.k) ∧ w'.cell? ⟨w.heap.size + 1, 0, none⟩ = some (.int .i64 b.f) ∧ w'.cell? ⟨w.heap.size + 1, 1, none⟩ = some (.int .i64 b.l) ∧ w'.cell? ⟨w.heap.size + 1, 2, none⟩ = some (.int .u32 b.g) ∧ w'.cell? ⟨w.heap.size + 1, 3, none⟩ = some (.int .u32 b.r) ∧ w'.cell? ⟨w.heap.size + 1, 4, none⟩ = some (.int .u64 b.m) ∧ w'.cell? ⟨w.heap.size + 1, 5, none⟩ = some (.bool b.k) ∧ w'.cell? ⟨w4.heap.size, 0, none⟩ = some (.int .i64 x.f) ∧ w'.cell? ⟨w4.heap.size, 1, none⟩ = some (.int .i64 x.l) ∧ w'.cell? ⟨w4.heap.size, 2, none⟩ = some (.int .u32 x.g) ∧ w'.cell? ⟨w4.heap.size, 3, none⟩ = some (.int .u32 x.r) ∧ w'.cell? ⟨w4.heap.size, 4, none⟩ = some (.int .u64 x.m) ∧ w'.cell? ⟨w4.heap.size, 5, none⟩ = some (.bool x.k) ∧ Below W5.heap.size W5 w') (by kernel_rfl) S0 (fun hHeld => ?_)
    refine wpAnyH_take (i := 0) (v := ?_) rfl (by kernel_rfl) (by kernel_rfl) (by kernel_rfl) (fun _ _ _ h => h) (Or.inl ⟨by rfl, ?_⟩) (by assumption) ?_
    rotate_left
    · intro w hSw; (try dsimp only at hSw); go_simp; first | done | with_reducible rfl
    try simp only [Act.put, List.getElem_toArray, List.getElem_cons_zero, List.setIfInBounds_toArray, List.set_cons_zero, List.set_cons_succ]
    refine wpAnyH_take (i := 1) (v := ?_) rfl (by kernel_rfl) (by kernel_rfl) (by kernel_rfl) (fun _ _ _ h => h) (Or.inl ⟨by rfl, ?_⟩) (by assumption) ?_
    rotate_left
    · intro w hSw; (try dsimp only at hSw); go_simp; first | done | with_reducible rfl
    try simp only [Act.put, List.getElem_toArray, List.getElem_cons_zero, List.getElem_cons_succ, List.setIfInBounds_toArray, List.set_cons_zero, List.set_cons_succ]
    refine wpAnyH_take (i := 2) (v := ?_) rfl (by kernel_rfl) (by kernel_rfl) (by kernel_rfl) (fun _ _ _ h => h) (Or.inl ⟨by rfl, ?_⟩) (by assumption) ?_
    rotate_left
    · intro w hSw; (try dsimp only at hSw); go_simp; first | done | with_reducible rfl
    try simp only [Act.put, List.getElem_toArray, List.getElem_cons_zero, List.getElem_cons_succ, List.setIfInBounds_toArray, List.set_cons_zero, List.set_cons_succ]
    refine wpAnyH_ready (rs := [3]) (by kernel_rfl) (by simp) ?_
    refine AllReadyH.cons rfl (fun K hK => ?_) AllReadyH.nil
    go_simp
    (go_at_call 16; refine (HR.out _).mono ?_; rintro e w' ⟨rfl, hz⟩)
    go_wp2_with fail
    refine hK.out _ _ (next18 u0 u1 u2 (by assumption) hz) (fun hHeld => ?_)
    clear hK K hz
    refine wpAnyH_take (i := 4) (v := ?_) rfl (by kernel_rfl) (by kernel_rfl) (by kernel_rfl) (fun _ _ _ h => h) (Or.inl ⟨by rfl, ?_⟩) (by assumption) ?_
    rotate_left
    · intro w hSw; (try dsimp only at hSw); go_simp; first | done | with_reducible rfl
    try simp only [Act.put, List.getElem_toArray, List.getElem_cons_zero, List.getElem_cons_succ, List.setIfInBounds_toArray, List.set_cons_zero, List.set_cons_succ]
    refine wpAnyH_take (i := 5) (v := ?_) rfl (by kernel_rfl) (by kernel_rfl) (by kernel_rfl) (fun _ _ _ h => h) (Or.inl ⟨by rfl, ?_⟩) (by assumption) ?_
    rotate_left
    · intro w hSw; (try dsimp only at hSw); go_simp; first | done | with_reducible rfl
    try simp only [Act.put, List.getElem_toArray, List.getElem_cons_zero, List.getElem_cons_succ, List.setIfInBounds_toArray, List.set_cons_zero, List.set_cons_succ]
    refine wpAnyH_take (i := 6) (v := ?_) rfl (by kernel_rfl) (by kernel_rfl) (by kernel_rfl) (fun _ _ _ h => h) (Or.inl ⟨by rfl, ?_⟩) (by assumption) ?_
    rotate_left
    · intro w hSw; (try dsimp only at hSw); go_simp; first | done | with_reducible rfl
    try simp only [Act.put, List.getElem_toArray, List.getElem_cons_zero, List.getElem_cons_succ, List.setIfInBounds_toArray, List.set_cons_zero, List.set_cons_succ]
    refine wpAnyH_take (i := 7) (v := ?_) rfl (by kernel_rfl) (by kernel_rfl) (by kernel_rfl) (fun _ _ _ h => h) (Or.inl ⟨by rfl, ?_⟩) (by assumption) ?_
    rotate_left
    · intro w hSw; (try dsimp only at hSw); go_simp; first | done | with_reducible rfl
    try simp only [Act.put, List.getElem_toArray, List.getElem_cons_zero, List.getElem_cons_succ, List.setIfInBounds_toArray, List.set_cons_zero, List.set_cons_succ]
    refine wpAnyH_take (i := 8) (v := ?_) rfl (by kernel_rfl) (by kernel_rfl) (by kernel_rfl) (fun _ _ _ h => h) (Or.inl ⟨by rfl, ?_⟩) (by assumption) ?_
    rotate_left
    · intro w hSw; (try dsimp only at hSw); go_simp; first | done | with_reducible rfl
    try simp only [Act.put, List.getElem_toArray, List.getElem_cons_zero, List.getElem_cons_succ, List.setIfInBounds_toArray, List.set_cons_zero, List.set_cons_succ]
    refine wpAnyH_take (i := 9) (v := undef) rfl (by kernel_rfl) (by kernel_rfl) (by kernel_rfl) (fun _ _ _ h => h) (Or.inr ⟨by rfl, rfl⟩) (by assumption) ?_
    try simp only [Act.put, List.getElem_toArray, List.getElem_cons_zero, List.getElem_cons_succ, List.setIfInBounds_toArray, List.set_cons_zero, List.set_cons_succ]
    refine wpAnyH_take (i := 10) (v := undef) rfl (by kernel_rfl) (by kernel_rfl) (by kernel_rfl) (fun _ _ _ h => h) (Or.inr ⟨by rfl, rfl⟩) (by assumption) ?_
    try simp only [Act.put, List.getElem_toArray, List.getElem_cons_zero, List.getElem_cons_succ, List.setIfInBounds_toArray, List.set_cons_zero, List.set_cons_succ]
    refine wpAnyH_take (i := 11) (v := undef) rfl (by kernel_rfl) (by kernel_rfl) (by kernel_rfl) (fun _ _ _ h => h) (Or.inr ⟨by rfl, rfl⟩) (by assumption) ?_
    try simp only [Act.put, List.getElem_toArray, List.getElem_cons_zero, List.getElem_cons_succ, List.setIfInBounds_toArray, List.set_cons_zero, List.set_cons_succ]
    refine wpAnyH_take (i := 12) (v := ?_) rfl (by kernel_rfl) (by kernel_rfl) (by kernel_rfl) (fun _ _ _ h => h) (Or.inl ⟨by rfl, ?_⟩) (by assumption) ?_
    rotate_left
    · intro w hSw; (try dsimp only at hSw); go_simp; first | done | with_reducible rfl
    try simp only [Act.put, List.getElem_toArray, List.getElem_cons_zero, List.getElem_cons_succ, List.setIfInBounds_toArray, List.set_cons_zero, List.set_cons_succ]
    refine wpAnyH_take (i := 13) (v := ?_) rfl (by kernel_rfl) (by kernel_rfl) (by kernel_rfl) (fun _ _ _ h => h) (Or.inl ⟨by rfl, ?_⟩) (by assumption) ?_
    rotate_left
    · intro w hSw; (try dsimp only at hSw); go_simp; first | done | with_reducible rfl
    try simp only [Act.put, List.getElem_toArray, List.getElem_cons_zero, List.getElem_cons_succ, List.setIfInBounds_toArray, List.set_cons_zero, List.set_cons_succ]
    refine wpAnyH_take (i := 14) (v := ?_) rfl (by kernel_rfl) (by kernel_rfl) (by kernel_rfl) (fun _ _ _ h => h) (Or.inl ⟨by rfl, ?_⟩) (by assumption) ?_
    rotate_left
    · intro w hSw; (try dsimp only at hSw); go_simp; first | done | with_reducible rfl
    try simp only [Act.put, List.getElem_toArray, List.getElem_cons_zero, List.getElem_cons_succ, List.setIfInBounds_toArray, List.set_cons_zero, List.set_cons_succ]
    refine wpAnyH_take (i := 15) (v := ?_) rfl (by kernel_rfl) (by kernel_rfl) (by kernel_rfl) (fun _ _ _ h => h) (Or.inl ⟨by rfl, ?_⟩) (by assumption) ?_
    rotate_left
    · intro w hSw; (try dsimp only at hSw); go_simp; first | done | with_reducible rfl
    try simp only [Act.put, List.getElem_toArray, List.getElem_cons_zero, List.getElem_cons_succ, List.setIfInBounds_toArray, List.set_cons_zero, List.set_cons_succ]
    refine wpAnyH_take (i := 16) (v := ?_) rfl (by kernel_rfl) (by kernel_rfl) (by kernel_rfl) (fun _ _ _ h => h) (Or.inl ⟨by rfl, ?_⟩) (by assumption) ?_
    rotate_left
    · intro w hSw; (try dsimp only at hSw); go_simp; first | done | with_reducible rfl
    try simp only [Act.put, List.getElem_toArray, List.getElem_cons_zero, List.getElem_cons_succ, List.setIfInBounds_toArray, List.set_cons_zero, List.set_cons_succ]
    refine wpAnyH_take (i := 17) (v := ?_) rfl (by kernel_rfl) (by kernel_rfl) (by kernel_rfl) (fun _ _ _ h => h) (Or.inl ⟨by rfl, ?_⟩) (by assumption) ?_
    rotate_left
    · intro w hSw; (try dsimp only at hSw); go_simp; first | done | with_reducible rfl
    try simp only [Act.put, List.getElem_toArray, List.getElem_cons_zero, List.getElem_cons_succ, List.setIfInBounds_toArray, List.set_cons_zero, List.set_cons_succ]
    refine wpAnyH_take (i := 18) (v := ?_) rfl (by kernel_rfl) (by kernel_rfl) (by kernel_rfl) (fun _ _ _ h => h) (Or.inl ⟨by rfl, ?_⟩) (by assumption) ?_
    rotate_left
    · intro w hSw; (try dsimp only at hSw); go_simp; first | done | with_reducible rfl
    try simp only [Act.put, List.getElem_toArray, List.getElem_cons_zero, List.getElem_cons_succ, List.setIfInBounds_toArray, List.set_cons_zero, List.set_cons_succ]
    refine wpAnyH_take (i := 19) (v := ?_) rfl (by kernel_rfl) (by kernel_rfl) (by kernel_rfl) (fun _ _ _ h => h) (Or.inl ⟨by rfl, ?_⟩) (by assumption) ?_
    rotate_left
    · intro w hSw; (try dsimp only at hSw); go_simp; first | done | with_reducible rfl
    try simp only [Act.put, List.getElem_toArray, List.getElem_cons_zero, List.getElem_cons_succ, List.setIfInBounds_toArray, List.set_cons_zero, List.set_cons_succ]
    refine wpAnyH_take (i := 20) (v := ?_) rfl (by kernel_rfl) (by kernel_rfl) (by kernel_rfl) (fun _ _ _ h => h) (Or.inl ⟨by rfl, ?_⟩) (by assumption) ?_
    rotate_left
    · intro w hSw; (try dsimp only at hSw); go_simp; first | done | with_reducible rfl
    try simp only [Act.put, List.getElem_toArray, List.getElem_cons_zero, List.getElem_cons_succ, List.setIfInBounds_toArray, List.set_cons_zero, List.set_cons_succ]
    refine wpAnyH_take (i := 21) (v := ?_) rfl (by kernel_rfl) (by kernel_rfl) (by kernel_rfl) (fun _ _ _ h => h) (Or.inl ⟨by rfl, ?_⟩) (by assumption) ?_
    rotate_left
    · intro w hSw; (try dsimp only at hSw); go_simp; first | done | with_reducible rfl
    try simp only [Act.put, List.getElem_toArray, List.getElem_cons_zero, List.getElem_cons_succ, List.setIfInBounds_toArray, List.set_cons_zero, List.set_cons_succ]
    refine wpAnyH_take (i := 24) (v := ?_) rfl (by kernel_rfl) (by kernel_rfl) (by kernel_rfl) (fun _ _ _ h => h) (Or.inl ⟨by rfl, ?_⟩) (by assumption) ?_
    rotate_left
    · intro w hSw; (try dsimp only at hSw); go_simp; first | done | with_reducible rfl
    try simp only [Act.put, List.getElem_toArray, List.getElem_cons_zero, List.getElem_cons_succ, List.setIfInBounds_toArray, List.set_cons_zero, List.set_cons_succ]
    refine wpAnyH_take (i := 25) (v := ?_) rfl (by kernel_rfl) (by kernel_rfl) (by kernel_rfl) (fun _ _ _ h => h) (Or.inl ⟨by rfl, ?_⟩) (by assumption) ?_
    rotate_left
    · intro w hSw; (try dsimp only at hSw); go_simp; first | done | with_reducible rfl
    try simp only [Act.put, List.getElem_toArray, List.getElem_cons_zero, List.getElem_cons_succ, List.setIfInBounds_toArray, List.set_cons_zero, List.set_cons_succ]
    refine wpAnyH_take (i := 26) (v := ?_) rfl (by kernel_rfl) (by kernel_rfl) (by kernel_rfl) (fun _ _ _ h => h) (Or.inl ⟨by rfl, ?_⟩) (by assumption) ?_
    rotate_left
    · intro w hSw; (try dsimp only at hSw); go_simp; first | done | with_reducible rfl
    try simp only [Act.put, List.getElem_toArray, List.getElem_cons_zero, List.getElem_cons_succ, List.setIfInBounds_toArray, List.set_cons_zero, List.set_cons_succ]
    refine wpAnyH_ready (rs := [22]) (by kernel_rfl) (by simp) ?_
    refine AllReadyH.cons rfl (fun K hK => ?_) AllReadyH.nil
    go_simp
    (go_at_call 19; refine (HT.out _).mono ?_; rintro e w' ⟨rfl, hz⟩)
    go_wp2_with fail
    refine hK.out _ _ (next18 u0 u1 u2 (by assumption) hz) (fun hHeld => ?_)
    clear hK K hz
    refine wpAnyH_take (i := 23) (v := ?_) rfl (by kernel_rfl) (by kernel_rfl) (by kernel_rfl) (fun _ _ _ h => h) (Or.inl ⟨by rfl, ?_⟩) (by assumption) ?_
    rotate_left
    · intro w hSw; (try dsimp only at hSw); go_simp; first | done | with_reducible rfl
    try simp only [Act.put, List.getElem_toArray, List.getElem_cons_zero, List.getElem_cons_succ, List.setIfInBounds_toArray, List.set_cons_zero, List.set_cons_succ]
    refine wpAnyH_take (i := 27) (v := ?_) rfl (by kernel_rfl) (by kernel_rfl) (by kernel_rfl) (fun _ _ _ h => h) (Or.inl ⟨by rfl, ?_⟩) (by assumption) ?_
    rotate_left
    · intro w hSw; (try dsimp only at hSw); go_simp; first | done | with_reducible rfl
    try simp only [Act.put, List.getElem_toArray, List.getElem_cons_zero, List.getElem_cons_succ, List.setIfInBounds_toArray, List.set_cons_zero, List.set_cons_succ]
    refine wpAnyH_take (i := 28) (v := ?_) rfl (by kernel_rfl) (by kernel_rfl) (by kernel_rfl) (fun _ _ _ h => h) (Or.inl ⟨by rfl, ?_⟩) (by assumption) ?_
    rotate_left
    · intro w hSw; (try dsimp only at hSw); go_simp; first | done | with_reducible rfl
    try simp only [Act.put, List.getElem_toArray, List.getElem_cons_zero, List.getElem_cons_succ, List.setIfInBounds_toArray, List.set_cons_zero, List.set_cons_succ]
    refine wpAnyH_done (by kernel_rfl) ?_ _
    have HS := hHeld
    clear hHeld
    have B8 := key _ HS.2.2.2.2.2.2.2.2.2.2.2.2.2.2.2.2.2.2
    clear HS S0
    go_wp2_with fail
    refine (HP2.out _).mono ?_
    rintro e W9 ⟨rfl, hb9⟩
    have B9 := B8.trans (hb9.mono B8.size)
    clear hb9 B8
    rcases HD.out with rfl | rfl
    · obtain ⟨hry, hty, hfy⟩ := HGG.out rfl
      have HY := Lib.hid (fun W => right_R y hfy true hry W)
      have HTY := Lib.hid (fun W => text_R y hfy W)
      have hte : ((textS y).toList == s.toList) = true := beq_iff_eq.2 hty
      have y10 := Box6.new W9 y
      clear hry hty hfy
      go_wp2_with fail
      refine (HY.out _).mono ?_
      rintro e W10 ⟨rfl, hb10⟩
      have y11 := y10.below hb10
      have B10 := (B9.trans ((alloc_below W9 _).mono B9.size)).trans (hb10.mono (by have := B9.size; simp; omega))
      clear hb10 y10
      obtain ⟨e0, e1, e2, e3, e4, e5⟩ := y11.cells
      clear y11
      go_wp2_with fail
      refine (HTY.out _).mono ?_
      rintro e W11 ⟨rfl, hb11⟩
      have B11 := B10.trans (hb11.mono B10.size)
      clear hb11
      go_wp2
      go_ret
      exact ⟨rfl, B11⟩
    · have B10 := B9.trans ((alloc_below W9 (.cells #[.int .i64 y.f, .int .i64 y.l, .int .u32 y.g, .int .u32 y.r, .int .u64 y.m, .bool y.k] 30)).mono B9.size)
      clear B9
      go_wp2
      go_ret
      exact ⟨rfl, B10⟩

theorem i64_in {a : Int} (h : (Lit.int .i64 a).wf = true) : -9223372036854775808 ≤ a ∧ a ≤ 9223372036854775807 := by
  simp only [Lit.wf, Bool.and_eq_true, decide_eq_true_eq] at h
  exact ⟨h.1, h.2⟩
set_option maxRecDepth 100000 in
theorem open_brief64 {H : Type} {enc : TypeId × Value → H} {W : World} {r : Reach} {b0 : Nat} {v : Value} {d : DataW H} {p : List MemPlace} (hv : Value.okWide Try.prog W r b0 30 v) (h : DataW.Trod enc Try.prog W 0 (fun _ => true) true 30 v d p) :
    ∃ b : Br, v = .agg #[.int .i64 b.f, .int .i64 b.l, .int .u32 b.g, .int .u32 b.r, .int .u64 b.m, .bool b.k] ∧ Fits b ∧ Fits64 b := by
  obtain ⟨b, rfl, hfit⟩ := open_brief hv h
  refine ⟨b, rfl, hfit, ?_⟩
  obtain ⟨fuel, hf⟩ := h
  obtain ⟨xs, n, _, hx, hl, hlen, hg⟩ := DataW.trod_struct Try.underlying30 hf
  have g0 := hg 0 _ rfl
  have g1 := hg 1 _ rfl
  match xs, hlen with
  | [y0, y1, y2, y3, y4, y5], _ =>
    simp [Value.cells, cells2] at g0 g1
    obtain ⟨a0, e0, _, w0⟩ := DataW.trod_int Try.underlying2 g0
    obtain ⟨a1, e1, _, w1⟩ := DataW.trod_int Try.underlying2 g1
    simp at e0 e1
    subst e0 e1
    exact ⟨(i64_in w0).1, (i64_in w0).2, (i64_in w1).1, (i64_in w1).2⟩

set_option maxRecDepth 100000 in
theorem lifted (os : Os) (started : os.Started) (H : Type) (enc : TypeId × Value → H) :
    ReturnsInHanded {} Try.checked os 6 .any (Rows.briefBackSpec.pre6 enc Try.prog Try.f6 Rows.briefBackRow.domain false) (Rows.briefBackSpec.post enc Try.prog Try.f6 false true false false) := by
  refine returnsInHanded_of_change (C := Try.checked) own started (by kernel_rfl) Try.func6
    (ChangeSpec.witness6 (enc := enc) (C := Try.checked) false ⟨#[], #[.agg #[.int .i64 0, .int .i64 0, .int .u32 0, .int .u32 0, .int .u64 0, .bool false], .agg #[.int .i64 0, .int .i64 0, .int .u32 0, .int .u32 0, .int .u64 0, .bool false], .string ByteArray.empty], []⟩ 8 (by kernel_rfl) (by kernel_rfl) (by kernel_rfl) (by kernel_rfl)) ?_
  intro W base args ds gs before hval0 hW hcnd _
  have hval : ∀ (j : Nat) t v, Try.f6.params[j]? = some t → args[j]? = some v → Value.okWide Try.prog W .any base t v := hval0
  have hW' := hW
  obtain ⟨p, q, hA0, hV, rfl, hfz, hnd⟩ := hW
  have hA : DataW.TrodAll enc Try.prog W 0 (fun _ => true) true Try.f6.params.toList args.toList ds p := hA0
  rw [Try.params6] at hA hval
  obtain ⟨v0, vs0, d0, ds0, p0, q0, hargs, rfl, rfl, h0, r0⟩ := trodAll_cons hA
  obtain ⟨v1, vs1, d1, ds1, p1, q1, rfl, rfl, rfl, h1, r1⟩ := trodAll_cons r0
  obtain ⟨v2, vs2, d2, ds2, p2, q2, rfl, rfl, rfl, h2, r2⟩ := trodAll_cons r1
  obtain ⟨rfl, rfl, rfl⟩ := trodAll_nil r2
  obtain rfl : args = #[v0, v1, v2] := by cases args; simp_all
  obtain ⟨rfl, rfl⟩ := trodVars_none hV
  have lt0 : ∀ x ∈ p0, x.block < W.heap.size := by obtain ⟨m, hm⟩ := h0; exact DataW.trod_lt m _ _ _ hm
  have lt1 : ∀ x ∈ p1, x.block < W.heap.size := by obtain ⟨m, hm⟩ := h1; exact DataW.trod_lt m _ _ _ hm
  have lt2 : ∀ x ∈ p2, x.block < W.heap.size := by obtain ⟨m, hm⟩ := h2; exact DataW.trod_lt m _ _ _ hm
  obtain ⟨a, rfl, fa, ga⟩ := open_brief64 (hval 0 30 v0 rfl rfl) h0
  obtain ⟨b, rfl, fb, gb⟩ := open_brief64 (hval 1 30 v1 rfl rfl) h1
  have hs : ∃ s, v2 = .string s := by
    obtain ⟨s, rfl, _⟩ := Go.ChangeMaps.open_string Try.underlying9 (hval 2 9 v2 rfl rfl) h2
    exact ⟨s, rfl⟩
  obtain ⟨s, rfl⟩ := hs
  clear hA0 hval0
  refine (walk a b s W fa ga fb gb).mono fun e W' ⟨he, bel⟩ => ?_
  subst he
  exact ⟨_, rfl, _, _, _, [], _, [], hW', trodAll_mk1 (shut_bool Try.underlying4 _), (trodAll_cons_mk (Below.trod laidOut (by kernel_rfl) (of_decide_eq_true (by kernel_rfl)) h0 bel lt0) (trodAll_cons_mk (Below.trod laidOut (by kernel_rfl) (of_decide_eq_true (by kernel_rfl)) h1 bel lt1) (trodAll_cons_mk (Below.trod laidOut (by kernel_rfl) (of_decide_eq_true (by kernel_rfl)) h2 bel lt2) trodAll_mk0))), rfl, bel.frame _, fun h => by cases h⟩

theorem over : Rows.briefBackRow.holds Try.pinned (OpenSpec.ofChange Rows.briefBackSpec) :=
  OpenClaim.holds_of_wide 6 Try.f6 rfl rfl rfl rfl rfl rfl rfl ⟨rfl, rfl, rfl, rfl, rfl⟩ rfl rfl rfl rfl rfl (by kernel_rfl) Try.func6 (by kernel_rfl)
    (of_decide_eq_true (by kernel_rfl)) (by unfold Func.isWrapper; first | (rw [if_pos (by decide +kernel)]; kernel_rfl) | (rw [if_neg (by decide +kernel)]; exact ⟨rfl, rfl⟩))
    (fun os started H enc _ => lifted os started H enc)

theorem proved : Rows.BriefBackSaid := over
#print axioms proved
end Go.Proofs.Ytloknemmodmkiaa.briefBack
