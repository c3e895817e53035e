/- What package brief's functions on one brief or two answer, and the document's own. No conditions but what each theorem says. -/
import Derived.Test.YtloknemmodmkiaaBase
namespace Go.Proofs.Ytloknemmodmkiaa
open Go.ChangeShapes Go.WideShapes Go.ChangeAt Go.RowKit

theorem agg6 {a0 a1 b0 b1 : Int} {c0 c1 d0 d1 : Int} {m0 m1 : Int} {k0 k1 : Bool} (h0 : a0 = a1) (h1 : b0 = b1) (h2 : c0 = c1) (h3 : d0 = d1) (h4 : m0 = m1) (h5 : k0 = k1) :
    Ending.returned (.agg #[.int .i64 a0, .int .i64 b0, .int .u32 c0, .int .u32 d0, .int .u64 m0, .bool k0]) = Ending.returned (.agg #[.int .i64 a1, .int .i64 b1, .int .u32 c1, .int .u32 d1, .int .u64 m1, .bool k1]) := by
  rw [h0, h1, h2, h3, h4, h5]

/-! ### of an event -/
set_option maxHeartbeats 1000000 in
theorem of_any (g f a : Int) (t : Bool) (ho ap pr id tx : ByteArray) (la : Option Addr) (n c : Nat) (k : Bool) (w : World) :
    Calls Try.prog 14 #[.agg #[.int .i64 g, .int .i64 f, .bool t, .int .i64 a, .string ho, .string ap, .string pr, .string id, .slice la n c, .string tx], .bool k] w fun e w' =>
      e = .returned (.agg #[.int .i64 (ofB g f a k).f, .int .i64 (ofB g f a k).l, .int .u32 (ofB g f a k).g, .int .u32 (ofB g f a k).r, .int .u64 (ofB g f a k).m, .bool (ofB g f a k).k]) ∧ Below w.heap.size w w' := by
  by_cases h1 : withinB g 8 = true
  · by_cases h2 : withinB f 24 = true
    · have he : ofB g f a k = ⟨a, a, 2 ^ g.toNat, 2 ^ f.toNat, 1, k⟩ := by unfold ofB; rw [h1, h2]; rfl
      rw [he]
      have hg : 0 ≤ g ∧ g < 8 := by unfold withinB at h1; simpa using h1
      have hf : 0 ≤ f ∧ f < 24 := by unfold withinB at h2; simpa using h2
      obtain ⟨hg1, hg2⟩ := hg
      obtain ⟨hf1, hf2⟩ := hf
      have p1 := pow_lt g 8 hg1 hg2
      have p2 := pow_lt f 24 hf1 hf2
      have q1 : (0 : Int) < 2 ^ g.toNat := Int.pow_pos (by decide)
      have q2 : (0 : Int) < 2 ^ f.toNat := Int.pow_pos (by decide)
      have c1 : (2 : Int) ^ 8 = 256 := by decide
      have c2 : (2 : Int) ^ 24 = 16777216 := by decide
      have H1 := Lib.hid (show (2 : Int) ^ g.toNat % 4294967296 = 2 ^ g.toNat by omega)
      have H2 := Lib.hid (show (2 : Int) ^ f.toNat % 4294967296 = 2 ^ f.toNat by omega)
      clear p1 p2 q1 q2 c1 c2 he
      go_enter Try.func14, Try.ntmps14
      go_wp2_with (go_at_call 22; refine (within_any _ _ _).mono ?_; rintro e w' ⟨rfl, rfl⟩)
      go_region
      all_goals
        go_wp2
        refine bodyPost_ret (v := .agg #[.int .i64 a, .int .i64 a, .int .u32 (2 ^ g.toNat % 4294967296), .int .u32 (2 ^ f.toNat % 4294967296), .int .u64 1, .bool k]) (by simp [results, Try.results14, go_sem]) rfl ⟨agg6 rfl rfl H1.out H2.out rfl rfl, ?_⟩
        exact (((Below.refl _ _).alloc (Nat.le_refl _) _).alloc (by simp) _).drew
    · have he : ofB g f a k = none6 := by unfold ofB; rw [if_neg (by simp [h2])]
      rw [he]
      have h2' : withinB f 24 = false := by simpa using h2
      clear h2 he
      go_enter Try.func14, Try.ntmps14
      go_wp2_with (first
        | (go_at_call 22; refine (within_any _ _ _).mono ?_; rintro e w' ⟨rfl, rfl⟩)
        | (go_at_call 18; refine (none_any _).mono ?_; rintro e w' ⟨rfl, hb⟩; obtain ⟨hc, hf⟩ := bcell hb; have hz := hb.size; simp at hz; have hz1 : w.heap.size + 1 < w'.heap.size := hz))
      refine bodyPost_ret (v := .agg #[.int .i64 0, .int .i64 0, .int .u32 0, .int .u32 0, .int .u64 0, .bool false]) (by simp [results, Try.results14, go_sem, hc]) rfl ⟨rfl, ?_⟩
      have B1 : Below w.heap.size w w' := (((Below.refl _ _).alloc (Nat.le_refl _) _).alloc (by simp) _).trans (hb.mono (by simp; omega))
      exact store6 B1 (by omega) _ _ _ _ _ _
  · have he : ofB g f a k = none6 := by unfold ofB; rw [if_neg (by simp [h1])]
    rw [he]
    have h1' : withinB g 8 = false := by simpa using h1
    clear h1 he
    go_enter Try.func14, Try.ntmps14
    go_wp2_with (first
      | (go_at_call 22; refine (within_any _ _ _).mono ?_; rintro e w' ⟨rfl, rfl⟩)
      | (go_at_call 18; refine (none_any _).mono ?_; rintro e w' ⟨rfl, hb⟩; obtain ⟨hc, hf⟩ := bcell hb; have hz := hb.size; simp at hz; have hz1 : w.heap.size + 1 < w'.heap.size := hz))
    refine bodyPost_ret (v := .agg #[.int .i64 0, .int .i64 0, .int .u32 0, .int .u32 0, .int .u64 0, .bool false]) (by simp [results, Try.results14, go_sem, hc]) rfl ⟨rfl, ?_⟩
    have B1 : Below w.heap.size w w' := (((Below.refl _ _).alloc (Nat.le_refl _) _).alloc (by simp) _).trans (hb.mono (by simp; omega))
    exact store6 B1 (by omega) _ _ _ _ _ _

end Go.Proofs.Ytloknemmodmkiaa
