/- Two hashes compared by ==: as lists. -/
import Derived.Test.YtgmehaeccfbamaeText
namespace Go.Proofs.Ytgmehaeccfbamae
open Go.ChangeShapes Go.WideShapes Go.ChangeAt Go.RowKit

theorem run_part5 (h : List UInt8) (i : Nat) (c : UInt8) (hc : h[i]? = some c) (W : World) : (part 5 (cellsOf h) (i * 1)).run Try.prog W = .ok (.int .u8 ((c.toNat : Nat) : Int)) W := by
  have hag : ∀ W, (isAgg 5).run Try.prog W = .ok false W := Try.isAgg5
  have hx : (cellsOf h)[i * 1]? = some (.int .u8 ((c.toNat : Nat) : Int)) := by simp [cellsOf, hc]
  unfold part
  rw [Sem.run_bind, hag]
  simp only [Result.andThen_ok, Bool.false_eq_true, if_false, hx]
  rfl
theorem all_iff {h k : List UInt8} (hh : h.length = 32) (hk : k.length = 32) : ((List.range' 0 32).all fun i => h[i]? == k[i]?) = decide (h = k) := by
  rw [Bool.eq_iff_iff, decide_eq_true_iff, List.all_eq_true]
  constructor
  · intro hs
    apply List.ext_getElem?
    intro q
    rcases Nat.lt_or_ge q 32 with hq | hq
    · exact beq_iff_eq.1 (hs q (by simp [List.mem_range']; exact hq))
    · rw [List.getElem?_eq_none (by omega), List.getElem?_eq_none (by omega)]
  · rintro rfl i _
    exact beq_self_eq_true _
set_option maxRecDepth 100000 in
theorem eq_arr (d : Nat) (h k : List UInt8) (hh : h.length = 32) (hk : k.length = 32) (W : World) : (Op.equalIn (d + 2) 23 (.agg (cellsOf h)) (.agg (cellsOf k))).run Try.prog W = .ok (decide (h = k)) W := by
  have hsz : ∀ W, (sizeOf 5).run Try.prog W = .ok 1 W := Try.sizeOf5
  rw [Op.equalIn]
  simp only [Sem.run_bind, run_underlying Try.underlying23, Result.andThen_ok, hsz]
  simp only [Std.Legacy.Range.forIn_eq_forIn_range', Std.Legacy.Range.size]
  have key : ∀ (L : List Nat), (∀ i ∈ L, i < 32) → (forIn L ((none, ()) : Option Bool × Unit) (fun i __s => do
            let __do_lift ← part 5 (cellsOf h) (i * 1)
            let __do_lift_1 ← part 5 (cellsOf k) (i * 1)
            let __do_lift ← Op.equalIn (d + 1) 5 __do_lift __do_lift_1
            if (!__do_lift) = true then pure (ForInStep.done (some false, ())) else pure (ForInStep.yield (none, ())))).run Try.prog W =
      .ok (if (L.all fun i => h[i]? == k[i]?) = true then ((none, ()) : Option Bool × Unit) else (some false, ())) W := by
    intro L
    induction L with
    | nil => intro _; rfl
    | cons i L ih =>
      intro hL
      have hi : i < 32 := hL i (by simp)
      obtain ⟨a, ha⟩ : ∃ a, h[i]? = some a := ⟨h[i]'(by omega), List.getElem?_eq_getElem _⟩
      obtain ⟨b, hb⟩ : ∃ b, k[i]? = some b := ⟨k[i]'(by omega), List.getElem?_eq_getElem _⟩
      have he := run_equalIn_int (P := Try.prog) W d 5 .u8 .u8 ((a.toNat : Nat) : Int) ((b.toNat : Nat) : Int) Try.underlying5
      have hab : (((a.toNat : Nat) : Int) == ((b.toNat : Nat) : Int)) = (a == b) := by
        rw [Bool.eq_iff_iff, beq_iff_eq, beq_iff_eq, ← UInt8.toNat_inj]; omega
      rw [hab] at he
      rw [List.forIn_cons]
      simp only [Sem.run_bind, run_part5 h i a ha, run_part5 k i b hb, Result.andThen_ok, he, List.all_cons, ha, hb]
      have h2 : ((some a : Option UInt8) == some b) = (a == b) := rfl
      rw [h2]
      cases hq : (a == b) with
      | true =>
        simp only [Bool.not_true, Bool.false_eq_true, if_false, Sem.run_pure, Result.andThen_ok, Bool.true_and]
        exact ih (fun j hj => hL j (by simp [hj]))
      | false =>
        simp only [Bool.not_false, if_true, Sem.run_pure, Result.andThen_ok, Bool.false_and, Bool.false_eq_true, if_false]
  have hr := key (List.range' 0 32) (fun i hi => by simpa [List.mem_range'] using hi)
  rw [show (32 - 0 + 1 - 1) / 1 = 32 from rfl, hr, Result.andThen_ok, all_iff hh hk]
  cases decide (h = k) <;> rfl
end Go.Proofs.Ytgmehaeccfbamae
