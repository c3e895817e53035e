/- The texts Br, BrOf, RefOf, Fits, one behind the other. -/
import Derived.Laws.BitsAllLaws
import Derived.Test.YtmmghppjhmdikaaGreatDoorRows
import Derived.WalkKit
import Derived.ProofKit
import Derived.Below
import Derived.Lib.Hide
import Derived.Deep.QuietTactic
import Derived.BigQuiet
import Derived.Deep.RegionHeld3
import Derived.Laws.StructEq
import Derived.Laws.Small
import Derived.RegionTactic
import Derived.ChangeAlike
/- What is told of an event, as plain numbers. No conditions but what each theorem says. -/
namespace Go.Proofs.YtmmghppjhmdikaaGreatDoor.Bf

/-- A brief. -/
structure Br where
  f : Int
  l : Int
  g : Int
  r : Int
  m : Int
  k : Bool
deriving DecidableEq

def none6 : Br := ⟨0, 0, 0, 0, 0, false⟩
def withinB (n k : Int) : Bool := decide (0 ≤ n) && decide (n < k)
def ofB (g f a : Int) (k : Bool) : Br := if withinB g 8 && withinB f 24 then ⟨a, a, 2 ^ g.toNat, 2 ^ f.toNat, 1, k⟩ else none6
theorem pow_lt (n : Int) (k : Nat) (h0 : 0 ≤ n) (h1 : n < k) : (2 : Int) ^ n.toNat < 2 ^ k := by
  have h : (2 : Nat) ^ n.toNat < 2 ^ k := Nat.pow_lt_pow_right (by decide) (by omega)
  have h2 : ((2 ^ n.toNat : Nat) : Int) < ((2 ^ k : Nat) : Int) := Int.ofNat_lt.2 h
  simpa using h2
theorem of_out {g f a : Int} {k : Bool} (h : ¬ (0 ≤ g ∧ g < 8 ∧ 0 ≤ f ∧ f < 24)) : ofB g f a k = none6 := by
  unfold ofB withinB
  rw [if_neg]
  simp only [Bool.and_eq_true, decide_eq_true_eq]
  omega
theorem of_in {g f a : Int} {k : Bool} (h : 0 ≤ g ∧ g < 8 ∧ 0 ≤ f ∧ f < 24) : ofB g f a k = ⟨a, a, 2 ^ g.toNat, 2 ^ f.toNat, 1, k⟩ := by
  unfold ofB withinB
  rw [if_pos]
  simp only [Bool.and_eq_true, decide_eq_true_eq]
  omega
/-- What is told of an event's keep is what was asked, where it is told at all. -/
theorem of_twice (g f a : Int) (k : Bool) : ofB g f a (ofB g f a k).k = ofB g f a k := by
  by_cases h : 0 ≤ g ∧ g < 8 ∧ 0 ≤ f ∧ f < 24
  · rw [of_in h, of_in h]
  · rw [of_out h, of_out h]
/-- All but the last is told alike, whatever is kept. -/
theorem of_same (g f a : Int) (k j : Bool) : (ofB g f a k).f = (ofB g f a j).f ∧ (ofB g f a k).g = (ofB g f a j).g ∧ (ofB g f a k).r = (ofB g f a j).r := by
  by_cases h : 0 ≤ g ∧ g < 8 ∧ 0 ≤ f ∧ f < 24
  · rw [of_in h, of_in h]; exact ⟨rfl, rfl, rfl⟩
  · rw [of_out h, of_out h]; exact ⟨rfl, rfl, rfl⟩
end Go.Proofs.YtmmghppjhmdikaaGreatDoor.Bf
/- What brief.Of and what it calls answer, for every event. No conditions. -/
namespace Go.Proofs.YtmmghppjhmdikaaGreatDoor.Bf
open Go.ChangeShapes Go.WideShapes Go.ChangeAt Go.RowKit

theorem bcell {W w1 : World} (hb : Below W.heap.size W w1) : (∀ b o, b < W.heap.size → w1.cell? ⟨b, o, none⟩ = W.cell? ⟨b, o, none⟩) ∧ (∀ b o, b < W.heap.size → w1.frozen? ⟨b, o, none⟩ = W.frozen? ⟨b, o, none⟩) :=
  ⟨fun b o h => hb.cell (p := ⟨b, o, none⟩) h, fun b o h => hb.frozen (p := ⟨b, o, none⟩) h⟩
theorem store6 {B b : Nat} {w W : World} (h : Below B w W) (hb : B ≤ b) (v0 v1 v2 v3 v4 v5 : Value) :
    Below B w ((((((W.setCell ⟨b, 0, none⟩ v0).setCell ⟨b, 1, none⟩ v1).setCell ⟨b, 2, none⟩ v2).setCell ⟨b, 3, none⟩ v3).setCell ⟨b, 4, none⟩ v4).setCell ⟨b, 5, none⟩ v5) :=
  (((((h.setCell (p := ⟨b, 0, none⟩) hb v0).setCell (p := ⟨b, 1, none⟩) hb v1).setCell (p := ⟨b, 2, none⟩) hb v2).setCell (p := ⟨b, 3, none⟩) hb v3).setCell (p := ⟨b, 4, none⟩) hb v4).setCell (p := ⟨b, 5, none⟩) hb v5
theorem agg6 {a0 a1 b0 b1 : Int} {c0 c1 d0 d1 : Int} {m0 m1 : Int} {k0 k1 : Bool} (h0 : a0 = a1) (h1 : b0 = b1) (h2 : c0 = c1) (h3 : d0 = d1) (h4 : m0 = m1) (h5 : k0 = k1) :
    Ending.returned (.agg #[.int .i64 a0, .int .i64 b0, .int .u32 c0, .int .u32 d0, .int .u64 m0, .bool k0]) = Ending.returned (.agg #[.int .i64 a1, .int .i64 b1, .int .u32 c1, .int .u32 d1, .int .u64 m1, .bool k1]) := by
  rw [h0, h1, h2, h3, h4, h5]
/-- A brief as a value. -/
def Br.val (b : Br) : Value := .agg #[.int .i64 b.f, .int .i64 b.l, .int .u32 b.g, .int .u32 b.r, .int .u64 b.m, .bool b.k]

/-! ### is a number within a range -/
theorem within_any (n k : Int) (w : World) : Calls Tryz.prog 36 #[.int .i64 n, .int .i64 k] w fun e w' => e = .returned (.bool (withinB n k)) ∧ w = w' := by
  unfold withinB
  by_cases h : 0 ≤ n
  · have h2 : decide (0 ≤ n) = true := decide_eq_true h
    rw [h2]
    go_enter Tryz.func36, Tryz.ntmps36
    go_wp2
    go_ret
    exact ⟨by simp, rfl⟩
  · have h2 : decide (0 ≤ n) = false := decide_eq_false h
    rw [h2]
    go_enter Tryz.func36, Tryz.ntmps36
    go_wp2
    go_ret
    exact ⟨by simp, rfl⟩

/-! ### none -/
theorem none_any (w : World) : Calls Tryz.prog 37 #[] w fun e w' => e = .returned (.agg #[.int .i64 0, .int .i64 0, .int .u32 0, .int .u32 0, .int .u64 0, .bool false]) ∧ Below w.heap.size w w' := by
  go_enter Tryz.func37, Tryz.ntmps37
  go_wp2
  exact bodyPost_ret (v := .agg #[.int .i64 0, .int .i64 0, .int .u32 0, .int .u32 0, .int .u64 0, .bool false]) (by simp [results, Tryz.results37, go_sem]) rfl ⟨rfl, by
    repeat (first | exact Below.refl _ _ | (refine Below.setCell ?_ (by simp) _) | (refine Below.alloc ?_ (by simp) _))⟩

/-! ### of an event -/
set_option maxHeartbeats 1000000 in
theorem of_any (g f a : Int) (t : Bool) (ho ap pr id tx : ByteArray) (la : Option Addr) (n c : Nat) (k : Bool) (w : World) :
    Calls Tryz.prog 17 #[.agg #[.int .i64 g, .int .i64 f, .bool t, .int .i64 a, .string ho, .string ap, .string pr, .string id, .slice la n c, .string tx], .bool k] w fun e w' =>
      e = .returned (.agg #[.int .i64 (ofB g f a k).f, .int .i64 (ofB g f a k).l, .int .u32 (ofB g f a k).g, .int .u32 (ofB g f a k).r, .int .u64 (ofB g f a k).m, .bool (ofB g f a k).k]) ∧ Below w.heap.size w w' := by
  by_cases h1 : withinB g 8 = true
  · by_cases h2 : withinB f 24 = true
    · have he : ofB g f a k = ⟨a, a, 2 ^ g.toNat, 2 ^ f.toNat, 1, k⟩ := by unfold ofB; rw [h1, h2]; rfl
      rw [he]
      have hg : 0 ≤ g ∧ g < 8 := by unfold withinB at h1; simpa using h1
      have hf : 0 ≤ f ∧ f < 24 := by unfold withinB at h2; simpa using h2
      obtain ⟨hg1, hg2⟩ := hg
      obtain ⟨hf1, hf2⟩ := hf
      have p1 := pow_lt g 8 hg1 hg2
      have p2 := pow_lt f 24 hf1 hf2
      have q1 : (0 : Int) < 2 ^ g.toNat := Int.pow_pos (by decide)
      have q2 : (0 : Int) < 2 ^ f.toNat := Int.pow_pos (by decide)
      have c1 : (2 : Int) ^ 8 = 256 := by decide
      have c2 : (2 : Int) ^ 24 = 16777216 := by decide
      have H1 := Lib.hid (show (2 : Int) ^ g.toNat % 4294967296 = 2 ^ g.toNat by omega)
      have H2 := Lib.hid (show (2 : Int) ^ f.toNat % 4294967296 = 2 ^ f.toNat by omega)
      clear p1 p2 q1 q2 c1 c2 he
      go_enter Tryz.func17, Tryz.ntmps17
      go_wp2_with (go_at_call 36; refine (within_any _ _ _).mono ?_; rintro e w' ⟨rfl, rfl⟩)
      go_region
      all_goals
        go_wp2
        refine bodyPost_ret (v := .agg #[.int .i64 a, .int .i64 a, .int .u32 (2 ^ g.toNat % 4294967296), .int .u32 (2 ^ f.toNat % 4294967296), .int .u64 1, .bool k]) (by simp [results, Tryz.results17, go_sem]) rfl ⟨agg6 rfl rfl H1.out H2.out rfl rfl, ?_⟩
        exact (((Below.refl _ _).alloc (Nat.le_refl _) _).alloc (by simp) _).drew
    · have he : ofB g f a k = none6 := by unfold ofB; rw [if_neg (by simp [h2])]
      rw [he]
      have h2' : withinB f 24 = false := by simpa using h2
      clear h2 he
      go_enter Tryz.func17, Tryz.ntmps17
      go_wp2_with (first
        | (go_at_call 36; refine (within_any _ _ _).mono ?_; rintro e w' ⟨rfl, rfl⟩)
        | (go_at_call 37; refine (none_any _).mono ?_; rintro e w' ⟨rfl, hb⟩; obtain ⟨hc, hf⟩ := bcell hb; have hz := hb.size; simp at hz; have hz1 : w.heap.size + 1 < w'.heap.size := hz))
      refine bodyPost_ret (v := .agg #[.int .i64 0, .int .i64 0, .int .u32 0, .int .u32 0, .int .u64 0, .bool false]) (by simp [results, Tryz.results17, go_sem, hc]) rfl ⟨rfl, ?_⟩
      have B1 : Below w.heap.size w w' := (((Below.refl _ _).alloc (Nat.le_refl _) _).alloc (by simp) _).trans (hb.mono (by simp; omega))
      exact store6 B1 (by omega) _ _ _ _ _ _
  · have he : ofB g f a k = none6 := by unfold ofB; rw [if_neg (by simp [h1])]
    rw [he]
    have h1' : withinB g 8 = false := by simpa using h1
    clear h1 he
    go_enter Tryz.func17, Tryz.ntmps17
    go_wp2_with (first
      | (go_at_call 36; refine (within_any _ _ _).mono ?_; rintro e w' ⟨rfl, rfl⟩)
      | (go_at_call 37; refine (none_any _).mono ?_; rintro e w' ⟨rfl, hb⟩; obtain ⟨hc, hf⟩ := bcell hb; have hz := hb.size; simp at hz; have hz1 : w.heap.size + 1 < w'.heap.size := hz))
    refine bodyPost_ret (v := .agg #[.int .i64 0, .int .i64 0, .int .u32 0, .int .u32 0, .int .u64 0, .bool false]) (by simp [results, Tryz.results17, go_sem, hc]) rfl ⟨rfl, ?_⟩
    have B1 : Below w.heap.size w w' := (((Below.refl _ _).alloc (Nat.le_refl _) _).alloc (by simp) _).trans (hb.mono (by simp; omega))
    exact store6 B1 (by omega) _ _ _ _ _ _
end Go.Proofs.YtmmghppjhmdikaaGreatDoor.Bf
/- What the document's own Of answers, for every event. No conditions. -/
namespace Go.Proofs.YtmmghppjhmdikaaGreatDoor.Bf
open Go.ChangeShapes Go.WideShapes Go.ChangeAt Go.RowKit

theorem two_below (w : World) (o1 o2 : Obj) : Below w.heap.size w ((w.alloc o1).alloc o2) := ((Below.refl _ _).alloc (Nat.le_refl _) _).alloc (by simp) _
theorem drewN_below (w : World) (n : Nat) : Below w.heap.size w (w.drewN n) := ⟨rfl, rfl, rfl, Nat.le_refl _, fun _ _ => rfl⟩
theorem quiet_left {P : Program} {f : FuncId} {args : Array Value} {w : World} {n : Nat} {v : Value}
    (h : Calls P f args (w.drewN n) fun e w' => e = .returned v ∧ w.drewN n = w') : Calls P f args (w.drewN n) fun e w'' => e = .returned v ∧ ∃ m, w'' = w.drewN m :=
  h.mono fun _ _ ⟨he, hm⟩ => ⟨he, n, hm.symm⟩
/-! ### a bit -/
theorem pow_two (k : Nat) : (2 : Int) ^ k + 2 ^ k = 2 ^ (k + 1) := by rw [Int.pow_succ]; omega
theorem pow_two_lt (k : Nat) (n : Int) (hn : n < 24) (h : (k : Int) < n) : (0 : Int) < 2 ^ k ∧ (2 : Int) ^ k < 8388609 := by
  refine ⟨Int.pow_pos (by decide), ?_⟩
  have h2 : (2 : Nat) ^ k ≤ 2 ^ 23 := Nat.pow_le_pow_right (by decide) (by omega)
  have h3 : ((2 ^ k : Nat) : Int) ≤ ((2 ^ 23 : Nat) : Int) := Int.ofNat_le.2 h2
  have h4 : ((2 ^ 23 : Nat) : Int) = 8388608 := by decide
  rw [h4] at h3
  simp at h3
  omega
theorem rbit_any (n : Int) (w : World) (h0 : 0 ≤ n) (h1 : n < 24) : Calls Tryz.prog 18 #[.int .i64 n] w fun e w' => e = .returned (.int .u32 (2 ^ n.toNat)) ∧ w = w' := by
  go_enter Tryz.func18, Tryz.ntmps18
  go_wp2
  go_loop [3, 4] (fun v i => ∃ (k : Nat) (p : Int), (k : Int) ≤ n ∧ i = .int .i64 k ∧ v = .int .u32 p ∧ p = 2 ^ k) (fun _ i => n.toNat - (intOf i).toNat)
  case atStart => exact ⟨0, 1, by omega, rfl, rfl, rfl⟩
  case round =>
    obtain ⟨k, p, hk, rfl, rfl, hp⟩ := hrel
    by_cases hlt : (k : Int) < n
    · obtain ⟨b1, b2⟩ := pow_two_lt k n h1 hlt
      rw [← hp] at b1 b2
      have HP := Lib.hid hp
      clear hp
      go_wp2
      go_round
      case rel => exact ⟨k + 1, p + p, by omega, by go_num, rfl, by rw [HP.out]; exact pow_two k⟩
      case measure => simp [intOf]; omega
    · have hkn : (k : Int) = n := by omega
      have HP := Lib.hid (show (2 : Int) ^ n.toNat = p by rw [hp, ← hkn]; rfl)
      have HK := Lib.hid hkn
      clear hp hkn
      go_wp2
      go_ret
      exact ⟨by rw [HP.out]; rfl, rfl⟩
/-! ### of an event -/
set_option maxHeartbeats 1000000 in
theorem rof_out (g f a : Int) (t : Bool) (ho ap pr id tx : ByteArray) (la : Option Addr) (n c : Nat) (k : Bool) (w : World) (h : ¬ (0 ≤ g ∧ g < 8 ∧ 0 ≤ f ∧ f < 24)) :
    Calls Tryz.prog 7 #[.agg #[.int .i64 g, .int .i64 f, .bool t, .int .i64 a, .string ho, .string ap, .string pr, .string id, .slice la n c, .string tx], .bool k] w fun e w' =>
      e = .returned (Br.val none6) ∧ Below w.heap.size w w' := by
  rcases (show g < 0 ∨ (0 ≤ g ∧ 7 < g) ∨ (0 ≤ g ∧ g ≤ 7 ∧ f < 0) ∨ (0 ≤ g ∧ g ≤ 7 ∧ 0 ≤ f ∧ 23 < f) by omega) with h1 | ⟨h1, h2⟩ | ⟨h1, h2, h3⟩ | ⟨h1, h2, h3, h4⟩
  all_goals
    clear h
    go_enter Tryz.func7, Tryz.ntmps7
    go_wp2
  all_goals
    refine bodyPost_ret (v := .agg #[.int .i64 0, .int .i64 0, .int .u32 0, .int .u32 0, .int .u64 0, .bool false]) (by simp [results, Tryz.results7, go_sem]) rfl ⟨rfl, ?_⟩
    exact two_below w _ _
set_option maxHeartbeats 4000000 in
theorem rof_in (g f a : Int) (t : Bool) (ho ap pr id tx : ByteArray) (la : Option Addr) (n c : Nat) (k : Bool) (w : World) (h : 0 ≤ g ∧ g < 8 ∧ 0 ≤ f ∧ f < 24) :
    Calls Tryz.prog 7 #[.agg #[.int .i64 g, .int .i64 f, .bool t, .int .i64 a, .string ho, .string ap, .string pr, .string id, .slice la n c, .string tx], .bool k] w fun e w' =>
      e = .returned (Br.val ⟨a, a, 2 ^ g.toNat, 2 ^ f.toNat, 1, k⟩) ∧ Below w.heap.size w w' := by
  obtain ⟨h1, h2, h3, h4⟩ := h
  have HG := Lib.hid (fun W => rbit_any g W h1 (by omega))
  have HF := Lib.hid (fun W => rbit_any f W h3 h4)
  generalize (2 : Int) ^ g.toNat = pg at HG
  generalize (2 : Int) ^ f.toNat = pf at HF
  have h5 : g ≤ 7 := by omega
  have h6 : f ≤ 23 := by omega
  clear h2 h4
  have d1 : decide (g < 0) = false := decide_eq_false (by omega)
  have d2 : decide (7 < g) = false := decide_eq_false (by omega)
  have d3 : decide (f < 0) = false := decide_eq_false (by omega)
  have d4 : decide (23 < f) = false := decide_eq_false (by omega)
  go_enter Tryz.func7, Tryz.ntmps7
  go_wp2
  go_region_held3 (fun w' => w'.cell? ⟨w.heap.size, 0, none⟩ = some (.int .i64 g) ∧ w'.cell? ⟨w.heap.size, 1, none⟩ = some (.int .i64 f) ∧ w'.cell? ⟨w.heap.size, 3, none⟩ = some (.int .i64 a))
    (first
      | assumption
      | (refine ⟨?_, ?_, ?_⟩ <;> simp [go_sem]))
    (first
      | (go_at_call 18; (with_reducible refine (HG.out _).mono ?_); rintro e w' ⟨rfl, rfl⟩)
      | (go_at_call 18; (with_reducible refine (HF.out _).mono ?_); rintro e w' ⟨rfl, rfl⟩))
  all_goals
    go_wp2
    refine bodyPost_ret (v := .agg #[.int .i64 a, .int .i64 a, .int .u32 pg, .int .u32 pf, .int .u64 1, .bool k]) (by simp [results, Tryz.results7, go_sem]) rfl ⟨rfl, ?_⟩
    exact (two_below w _ _).drew
theorem rof_any (g f a : Int) (t : Bool) (ho ap pr id tx : ByteArray) (la : Option Addr) (n c : Nat) (k : Bool) (w : World) :
    Calls Tryz.prog 7 #[.agg #[.int .i64 g, .int .i64 f, .bool t, .int .i64 a, .string ho, .string ap, .string pr, .string id, .slice la n c, .string tx], .bool k] w fun e w' =>
      e = .returned (Br.val (ofB g f a k)) ∧ Below w.heap.size w w' := by
  by_cases h : 0 ≤ g ∧ g < 8 ∧ 0 ≤ f ∧ f < 24
  · rw [of_in h]; exact rof_in g f a t ho ap pr id tx la n c k w h
  · rw [of_out h]; exact rof_out g f a t ho ap pr id tx la n c k w h
end Go.Proofs.YtmmghppjhmdikaaGreatDoor.Bf
/- What audit.Fits answers, given what the program's Parse answers of the text. -/
namespace Go.Proofs.YtmmghppjhmdikaaGreatDoor.Bf
open Go.ChangeShapes Go.WideShapes Go.ChangeAt Go.RowKit

/-! ### two briefs compared -/
theorem eq25 (a b : Br) (w : World) : (Op.equalIn 10000 25 (.agg #[.int .i64 a.f, .int .i64 a.l, .int .u32 a.g, .int .u32 a.r, .int .u64 a.m, .bool a.k]) (.agg #[.int .i64 b.f, .int .i64 b.l, .int .u32 b.g, .int .u32 b.r, .int .u64 b.m, .bool b.k])).run Tryz.prog w = .ok (decide (a = b)) w := by
  have u2 := Tryz.underlying2
  have u22 := Tryz.underlying22
  have u23 := Tryz.underlying23
  have u4 := Tryz.underlying4
  have a2 := Tryz.isAgg2
  have a22 := Tryz.isAgg22
  have a23 := Tryz.isAgg23
  have a4 := Tryz.isAgg4
  have z2 := Tryz.sizeOf2
  have z22 := Tryz.sizeOf22
  have z23 := Tryz.sizeOf23
  have z4 := Tryz.sizeOf4
  have hS : Tryz.prog.underlying 25 = some (.struct (Tryz.prog.fieldsOf 25)) := by kernel_rfl
  rw [show (10000 : Nat) = 9999 + 1 from rfl, run_equalIn_agg w 9999 25 _ _ hS Tryz.stoodInHeld25]
  simp only [Program.fieldsOf, Tryz.underlying25]
  go_simp
  obtain ⟨f, l, g, r, m, k⟩ := a
  obtain ⟨f', l', g', r', m', k'⟩ := b
  simp only [Br.mk.injEq]
  by_cases h0 : f = f'
  case neg => simp [h0]
  by_cases h1 : l = l'
  case neg => simp [h0, h1]
  by_cases h2 : g = g'
  case neg => simp [h0, h1, h2]
  by_cases h3 : r = r'
  case neg => simp [h0, h1, h2, h3]
  by_cases h4 : m = m'
  case neg => simp [h0, h1, h2, h3, h4]
  by_cases h5 : k = k'
  case neg => simp [h0, h1, h2, h3, h4, h5]
  simp [h0, h1, h2, h3, h4, h5]

/-- What Fits answers: B, of a text that is parsed, or that isn't. -/
abbrev FitsAns (B : Bool) (W : World) (e : Ending) (w' : World) : Prop := e = .returned (.bool B) ∧ Below W.heap.size W w'
/-- What is read of a text, as far as Fits asks: an event, and a number beside it. -/
def Read (g f : Int) (t : Bool) (a : Int) (ho ap pr id tx : ByteArray) (n : Nat) (E : Int) (W : World) (e : Ending) (w' : World) : Prop :=
  ∃ la lc, e = .returned (.tuple #[.agg #[.int .i64 g, .int .i64 f, .bool t, .int .i64 a, .string ho, .string ap, .string pr, .string id, .slice la n lc, .string tx], .int .i64 E]) ∧ Below W.heap.size W w'

/-- Cells of two blocks stay, whatever is made behind them. -/
theorem next16 {w0 W W' : World} {b0 b1 : Nat} {c0 c1 c2 c3 c4 c5 c6 c7 c8 c9 c10 c11 c12 c13 c14 c15 : Value} (l0 : b0 < w0.heap.size) (l1 : b1 < w0.heap.size)
    (h : W.cell? ⟨b0, 0, none⟩ = some (c0) ∧ W.cell? ⟨b0, 1, none⟩ = some (c1) ∧ W.cell? ⟨b0, 2, none⟩ = some (c2) ∧ W.cell? ⟨b0, 3, none⟩ = some (c3) ∧ W.cell? ⟨b0, 4, none⟩ = some (c4) ∧ W.cell? ⟨b0, 5, none⟩ = some (c5) ∧ W.cell? ⟨b1, 0, none⟩ = some (c6) ∧ W.cell? ⟨b1, 1, none⟩ = some (c7) ∧ W.cell? ⟨b1, 2, none⟩ = some (c8) ∧ W.cell? ⟨b1, 3, none⟩ = some (c9) ∧ W.cell? ⟨b1, 4, none⟩ = some (c10) ∧ W.cell? ⟨b1, 5, none⟩ = some (c11) ∧ W.cell? ⟨b1, 6, none⟩ = some (c12) ∧ W.cell? ⟨b1, 7, none⟩ = some (c13) ∧ W.cell? ⟨b1, 8, none⟩ = some (c14) ∧ W.cell? ⟨b1, 9, none⟩ = some (c15) ∧ Below w0.heap.size w0 W)
    (hb : Below W.heap.size W W') :
    W'.cell? ⟨b0, 0, none⟩ = some (c0) ∧ W'.cell? ⟨b0, 1, none⟩ = some (c1) ∧ W'.cell? ⟨b0, 2, none⟩ = some (c2) ∧ W'.cell? ⟨b0, 3, none⟩ = some (c3) ∧ W'.cell? ⟨b0, 4, none⟩ = some (c4) ∧ W'.cell? ⟨b0, 5, none⟩ = some (c5) ∧ W'.cell? ⟨b1, 0, none⟩ = some (c6) ∧ W'.cell? ⟨b1, 1, none⟩ = some (c7) ∧ W'.cell? ⟨b1, 2, none⟩ = some (c8) ∧ W'.cell? ⟨b1, 3, none⟩ = some (c9) ∧ W'.cell? ⟨b1, 4, none⟩ = some (c10) ∧ W'.cell? ⟨b1, 5, none⟩ = some (c11) ∧ W'.cell? ⟨b1, 6, none⟩ = some (c12) ∧ W'.cell? ⟨b1, 7, none⟩ = some (c13) ∧ W'.cell? ⟨b1, 8, none⟩ = some (c14) ∧ W'.cell? ⟨b1, 9, none⟩ = some (c15) ∧ Below w0.heap.size w0 W' := by
  obtain ⟨s0, s1, s2, s3, s4, s5, s6, s7, s8, s9, s10, s11, s12, s13, s14, s15, sb⟩ := h
  have hc := (bcell hb).1
  have m0 := Nat.lt_of_lt_of_le l0 sb.size
  have m1 := Nat.lt_of_lt_of_le l1 sb.size
  exact ⟨(hc _ _ m0).trans s0, (hc _ _ m0).trans s1, (hc _ _ m0).trans s2, (hc _ _ m0).trans s3, (hc _ _ m0).trans s4, (hc _ _ m0).trans s5, (hc _ _ m1).trans s6, (hc _ _ m1).trans s7, (hc _ _ m1).trans s8, (hc _ _ m1).trans s9, (hc _ _ m1).trans s10, (hc _ _ m1).trans s11, (hc _ _ m1).trans s12, (hc _ _ m1).trans s13, (hc _ _ m1).trans s14, (hc _ _ m1).trans s15, sb.trans (hb.mono sb.size)⟩

set_option maxHeartbeats 1000000 in
set_option maxRecDepth 100000 in
theorem fits_bad (s : ByteArray) (b : Br) (w : World) (g f : Int) (t : Bool) (a : Int) (ho ap pr id tx : ByteArray) (n : Nat)
    (C : ∀ W, Below w.heap.size w W → Calls Tryz.prog 16 #[.string s] W (Read g f t a ho ap pr id tx n 3 W)) :
    Calls Tryz.prog 6 #[.string s, .agg #[.int .i64 b.f, .int .i64 b.l, .int .u32 b.g, .int .u32 b.r, .int .u64 b.m, .bool b.k]] w (FitsAns (false) w) := by
  have H := Lib.hid C
  clear C
  have B1 := Lib.hid ((Below.refl w.heap.size w).alloc (Nat.le_refl _) (.cells #[.int .i64 b.f, .int .i64 b.l, .int .u32 b.g, .int .u32 b.r, .int .u64 b.m, .bool b.k] 25))
  go_enter Tryz.func6, Tryz.ntmps6
  go_wp2_with fail
  refine (H.out _ B1.out).mono ?_
  rintro e w2 ⟨la, lc, rfl, hb⟩
  have B2 := Lib.hid (B1.out.trans (hb.mono B1.out.size))
  clear hb
  go_wp2_with fail
  go_region
  go_wp2
  go_ret
  exact ⟨rfl, (B2.out.alloc B2.out.size _).drew⟩
set_option maxHeartbeats 4000000 in
set_option maxRecDepth 100000 in
theorem fits_good (s : ByteArray) (b : Br) (w : World) (g f : Int) (t : Bool) (a : Int) (ho ap pr id tx : ByteArray) (n : Nat)
    (C : ∀ W, Below w.heap.size w W → Calls Tryz.prog 16 #[.string s] W (Read g f t a ho ap pr id tx n 0 W)) :
    Calls Tryz.prog 6 #[.string s, .agg #[.int .i64 b.f, .int .i64 b.l, .int .u32 b.g, .int .u32 b.r, .int .u64 b.m, .bool b.k]] w (FitsAns (decide (b = ofB g f a b.k)) w) := by
  obtain ⟨K, hK⟩ : ∃ K, decide (b = ofB g f a b.k) = K := ⟨_, rfl⟩
  rw [hK]
  have he := fun W => eq25 b (ofB g f a b.k) W
  rw [hK] at he
  have hof := fun la lc W => of_any g f a t ho ap pr id tx la n lc b.k W
  obtain ⟨o, ho'⟩ : ∃ o, ofB g f a b.k = o := ⟨_, rfl⟩
  rw [ho'] at he
  have HO : Hid (∀ la lc W, Calls Tryz.prog 17 #[.agg #[.int .i64 g, .int .i64 f, .bool t, .int .i64 a, .string ho, .string ap, .string pr, .string id, .slice la n lc, .string tx], .bool b.k] W fun e w' => e = .returned (.agg #[.int .i64 o.f, .int .i64 o.l, .int .u32 o.g, .int .u32 o.r, .int .u64 o.m, .bool o.k]) ∧ Below W.heap.size W w') := Lib.hid (by rw [← ho']; exact hof)
  clear hof ho' hK
  have hgd := Tryz.eqGuardType25
  have H := Lib.hid C
  clear C
  have B1 := Lib.hid ((Below.refl w.heap.size w).alloc (Nat.le_refl _) (.cells #[.int .i64 b.f, .int .i64 b.l, .int .u32 b.g, .int .u32 b.r, .int .u64 b.m, .bool b.k] 25))
  go_enter Tryz.func6, Tryz.ntmps6
  go_wp2_with fail
  refine (H.out _ B1.out).mono ?_
  rintro e w2 ⟨la, lc, rfl, hb⟩
  have B2 := Lib.hid (B1.out.trans (hb.mono B1.out.size))
  have hz : w.heap.size < w2.heap.size := Nat.lt_of_lt_of_le (by simp) hb.size
  have hc := (bcell hb).1
  obtain ⟨W0, hW0⟩ : ∃ W0, w2.alloc (.cells #[.int .i64 g, .int .i64 f, .bool t, .int .i64 a, .string ho, .string ap, .string pr, .string id, .slice la n lc, .string tx] 29) = W0 := ⟨_, rfl⟩
  have S0 : W0.drew.cell? ⟨w.heap.size, 0, none⟩ = some (.int .i64 b.f) ∧ W0.drew.cell? ⟨w.heap.size, 1, none⟩ = some (.int .i64 b.l) ∧ W0.drew.cell? ⟨w.heap.size, 2, none⟩ = some (.int .u32 b.g) ∧ W0.drew.cell? ⟨w.heap.size, 3, none⟩ = some (.int .u32 b.r) ∧ W0.drew.cell? ⟨w.heap.size, 4, none⟩ = some (.int .u64 b.m) ∧ W0.drew.cell? ⟨w.heap.size, 5, none⟩ = some (.bool b.k) ∧ W0.drew.cell? ⟨w2.heap.size, 0, none⟩ = some (.int .i64 g) ∧ W0.drew.cell? ⟨w2.heap.size, 1, none⟩ = some (.int .i64 f) ∧ W0.drew.cell? ⟨w2.heap.size, 2, none⟩ = some (.bool t) ∧ W0.drew.cell? ⟨w2.heap.size, 3, none⟩ = some (.int .i64 a) ∧ W0.drew.cell? ⟨w2.heap.size, 4, none⟩ = some (.string ho) ∧ W0.drew.cell? ⟨w2.heap.size, 5, none⟩ = some (.string ap) ∧ W0.drew.cell? ⟨w2.heap.size, 6, none⟩ = some (.string pr) ∧ W0.drew.cell? ⟨w2.heap.size, 7, none⟩ = some (.string id) ∧ W0.drew.cell? ⟨w2.heap.size, 8, none⟩ = some (.slice la n lc) ∧ W0.drew.cell? ⟨w2.heap.size, 9, none⟩ = some (.string tx) ∧ Below W0.heap.size W0 W0.drew := by
    refine ⟨?_, ?_, ?_, ?_, ?_, ?_, ?_, ?_, ?_, ?_, ?_, ?_, ?_, ?_, ?_, ?_, ⟨rfl, rfl, rfl, Nat.le_refl _, fun _ _ => rfl⟩⟩ <;> (rw [← hW0]; simp [go_sem, hc, hz])
  have l1 : w2.heap.size < W0.heap.size := by rw [← hW0]; simp
  have l0 : w.heap.size < W0.heap.size := Nat.lt_trans hz l1
  have B3 : Below w.heap.size w W0 := by rw [← hW0]; exact B2.out.alloc B2.out.size _
  clear hb hc hz
  go_wp2_with fail
  clear hW0
  go_region_held3 (fun w' => w'.cell? ⟨w.heap.size, 0, none⟩ = some (.int .i64 b.f) ∧ w'.cell? ⟨w.heap.size, 1, none⟩ = some (.int .i64 b.l) ∧ w'.cell? ⟨w.heap.size, 2, none⟩ = some (.int .u32 b.g) ∧ w'.cell? ⟨w.heap.size, 3, none⟩ = some (.int .u32 b.r) ∧ w'.cell? ⟨w.heap.size, 4, none⟩ = some (.int .u64 b.m) ∧ w'.cell? ⟨w.heap.size, 5, none⟩ = some (.bool b.k) ∧ w'.cell? ⟨w2.heap.size, 0, none⟩ = some (.int .i64 g) ∧ w'.cell? ⟨w2.heap.size, 1, none⟩ = some (.int .i64 f) ∧ w'.cell? ⟨w2.heap.size, 2, none⟩ = some (.bool t) ∧ w'.cell? ⟨w2.heap.size, 3, none⟩ = some (.int .i64 a) ∧ w'.cell? ⟨w2.heap.size, 4, none⟩ = some (.string ho) ∧ w'.cell? ⟨w2.heap.size, 5, none⟩ = some (.string ap) ∧ w'.cell? ⟨w2.heap.size, 6, none⟩ = some (.string pr) ∧ w'.cell? ⟨w2.heap.size, 7, none⟩ = some (.string id) ∧ w'.cell? ⟨w2.heap.size, 8, none⟩ = some (.slice la n lc) ∧ w'.cell? ⟨w2.heap.size, 9, none⟩ = some (.string tx) ∧ Below W0.heap.size W0 w')
    (first
      | assumption
      | exact next16 l0 l1 S0 (by assumption)
      | exact next16 l0 l1 (by assumption) (by assumption)
      | exact S0)
    (first
      | (go_at_call 17; (with_reducible refine (HO.out _ _ _).mono ?_); rintro e w' ⟨rfl, hb⟩))
  rename_i hS
  have B6 := B3.trans (hS.2.2.2.2.2.2.2.2.2.2.2.2.2.2.2.2.mono B3.size)
  clear hS S0
  go_wp2
  go_ret
  exact ⟨rfl, B6⟩
end Go.Proofs.YtmmghppjhmdikaaGreatDoor.Bf
