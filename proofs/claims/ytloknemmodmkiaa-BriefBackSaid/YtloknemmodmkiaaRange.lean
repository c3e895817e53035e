/- A loop over a function that keeps a variable of its own between two rounds, where the loop's body always goes on: what the caller owes, and what it has behind the loop. Condition: the function's variable was made ahead of the loop. -/
import Derived.RangeFuncNested
import Derived.RangeFuncBox
namespace Go.Proofs.Ytloknemmodmkiaa
open Go.RowKit

/-- Whatever lay there, but for the block Bt, lies as it lay. -/
structure Mild (Bt : Nat) (W W' : World) : Prop where
  os : W'.os = W.os
  tape : W'.tape = W.tape
  output : W'.output = W.output
  size : W.heap.size ≤ W'.heap.size
  same : ∀ (k : Nat) (o : Obj), k ≠ Bt → W.heap[k]? = some o → W'.heap[k]? = some o
/-- Whatever lay there, but for the block Bt and for blocks from B on that hold no cells, lies as it lay. -/
structure Loose (B Bt : Nat) (W W' : World) : Prop where
  os : W'.os = W.os
  tape : W'.tape = W.tape
  output : W'.output = W.output
  size : W.heap.size ≤ W'.heap.size
  same : ∀ (k : Nat) (o : Obj), k ≠ Bt → W.heap[k]? = some o → (k < B ∨ o.isCells = true) → W'.heap[k]? = some o

theorem Mild.of_below {Bt : Nat} {W W' : World} (h : Below W.heap.size W W') : Mild Bt W W' :=
  ⟨h.os, h.tape, h.output, h.size, fun k _ _ ho => (h.block k (Array.getElem?_eq_some_iff.1 ho).1).trans ho⟩
theorem Mild.setCell (Bt : Nat) (W : World) (v : Value) : Mild Bt W (W.setCell ⟨Bt, 0, none⟩ v) :=
  ⟨rfl, rfl, rfl, (KeepsOthers.setCell W _ v).size, fun k _ hk ho => (Below.heap_setCell _ _ _ k hk).trans ho⟩
theorem Mild.trans {Bt : Nat} {X Y Z : World} (h : Mild Bt X Y) (k : Mild Bt Y Z) : Mild Bt X Z :=
  ⟨k.os.trans h.os, k.tape.trans h.tape, k.output.trans h.output, Nat.le_trans h.size k.size, fun i o hi ho => k.same i o hi (h.same i o hi ho)⟩
theorem Mild.loose {Bt : Nat} {W W' : World} (h : Mild Bt W W') (B : Nat) : Loose B Bt W W' := ⟨h.os, h.tape, h.output, h.size, fun k o hk ho _ => h.same k o hk ho⟩
theorem Loose.put {B Bt l : Nat} {W : World} {o : Obj} (o' : Obj) (hl : B ≤ l) (ho : W.heap[l]? = some o) (hc : o.isCells = false) : Loose B Bt W (W.putObj l o') := by
  refine ⟨rfl, rfl, rfl, by simp, fun k x _ hx hor => ?_⟩
  rw [World.putObj_heap_other, hx]
  rintro rfl
  rw [ho] at hx
  cases hx
  rcases hor with h | h
  · omega
  · rw [hc] at h; cases h

/-- The contract of such a function: J is the caller's word between two rounds. -/
def SeqState {α : Type} (F : Fence) (n : Nat) (P : Program) (g : Nat) (lb : Array Value) (encs : α → Array Value) (Bt : Nat) (Kp : World → World → Prop) (S : List α → Prop) (N : Nat) (w : World) : Prop :=
  ∀ (l : Nat) (J : List α → World → Prop) (W : World), Below w.heap.size w W → (∀ s X Y, J s X → Mild Bt X Y → J s Y) →
    (∀ pre x W1, J pre W1 → pre.length < N → YieldAt F (n - 1) P l (encs x) W1 fun e W' => e = .returned (.bool true) ∧ J (pre ++ [x]) W' ∧ Kp W1 W') →
    J [] W →
    CallsIn F n P g (#[.func (.yield l) #[] #[]] ++ lb) W fun e W' => (∃ v, e = .returned v) ∧ ∃ xs, S xs ∧ J xs W'

/-- A body that always goes on. -/
def goesOn {α : Type} (B : Nat) (Kp : World → World → Prop) (I : List α → World → Prop) (xs : List α) (W : World) : Exit → Act → World → Prop
  | .normal, _, W' => KeepsFrom B W W' ∧ Kp W W' ∧ I xs W'
  | .ret, _, _ => False
  | .exit _, _, _ => False
  | .goto _, _, _ => False
  | .panic _, _, _ => False
  | .outgrown, _, _ => False

/-- The loop. -/
theorem wpIn_range_state {α : Type} {F : Fence} {n : Nat} {P : Program} {g : Operand} {ps : Array Tmp} {assign body : Code} {Q : Exit → Act → World → Prop} {a : Act} {w : World}
    (hro : F.round = none) (h1 : 1 ≤ n) {gf : Nat} {lb : Array Value} (hg : a.eval g = .func (.func gf) #[] lb) (hFg : F.fn gf) (eg : ∀ args w, (callFunc gf args).run P w = .ok (.enter gf args) w)
    {encs : α → Array Value} {Bt : Nat} {Kp : World → World → Prop} {S : List α → Prop} {N : Nat} (hseq : SeqState F (n - 1) P gf lb encs Bt Kp S N w) (hBt : Bt < w.heap.size)
    (hKt : ∀ {A B C : World}, Kp A B → Kp B C → Kp A C) (hKb : ∀ (W : World) (l : Nat) (o' : Obj), w.heap.size ≤ l → Kp W (W.putObj l o')) (hps : ∀ x, (encs x).size = ps.size)
    (I : List α → World → Prop) (hI : ∀ s X Y, I s X → Loose w.heap.size Bt X Y → I s Y) (h0 : I [] w) (a₁ : α → Act)
    (hassign : ∀ (l : Nat) (x : α) (W : World) (K : Act → World → Prop), K (a₁ x) W →
      assign.wpIn (F.inRound l) (n - 1 - 1) P (Exit.then K (fun _ _ _ => False)) { tmps := (ps.zip (encs x)).foldl (fun t (p, v) => t.setIfInBounds p v) a.tmps, defers := [] } W)
    (hbody : ∀ (l : Nat) (pre : List α) (x : α) (W : World), I pre W → pre.length < N → body.wpIn (F.inRound l) (n - 1 - 1) P (goesOn w.heap.size Kp I (pre ++ [x]) W) (a₁ x) W)
    (hdone : ∀ (D : Nat) (xs : List α) (W : World), w.heap.size ≤ D → S xs → I xs W → W.heap[D]? = some (.deferred (some [])) → Q .normal { a with defers := { target := .collected D, args := #[] } :: a.defers } W) :
    (Code.rangeFunc g ps assign body).wpIn F n P Q a w := by
  refine wpIn_rangeFunc fun fn hfn => ?_
  rw [hro]
  let rcd : LoopState → Loop := fun st => { state := st, pending := none, fn, tmps := a.tmps, params := ps, assign, body, defers := w.heap.size }
  obtain ⟨V, hV⟩ : ∃ V, (w.alloc (.deferred (some []))).alloc (.loop (rcd .ready)) = V := ⟨_, rfl⟩
  have sz : (w.alloc (.deferred (some []))).heap.size = w.heap.size + 1 := by simp
  have atL : V.heap[w.heap.size + 1]? = some (.loop (rcd .ready)) := by
    rw [← hV, ← sz]; exact World.alloc_heap_new _ _
  have atD : V.heap[w.heap.size]? = some (.deferred (some [])) := by
    rw [← hV]; exact (Below.heap_alloc _ _ _ (by omega)).trans (World.alloc_heap_new w _)
  have mV : Below w.heap.size w V := by rw [← hV]; exact ((Below.refl _ w).alloc (Nat.le_refl _) _).alloc (by omega) _
  have iV : I [] V := hI _ _ _ h0 ((Mild.of_below mV).loose _)
  refine ⟨w.heap.size + 1, [{ target := .collected w.heap.size, args := #[] }], V, { target := .fn (.func gf) lb, args := #[.func (.yield (w.heap.size + 1)) #[] #[]] }, V, gf,
    #[.func (.yield (w.heap.size + 1)) #[] #[]] ++ lb, V, ?_, ?_, ?_, ?_, fun _ => h1, ?_⟩
  · rw [← hV]; exact run_enterLoop_outer _ _ _ _ _
  · simp only [resolve, hg]
    simp [go_sem]
  · intro f' hf'
    simp [Target.leads] at hf'
    subst hf'
    exact hFg
  · simp [invoke, go_sem, eg]
  refine (hseq (w.heap.size + 1) (fun pre W => I pre W ∧ W.heap[w.heap.size + 1]? = some (.loop (rcd .ready)) ∧ W.heap[w.heap.size]? = some (.deferred (some []))) V mV ?abides ?round ⟨iV, atL, atD⟩).mono ?behind
  case abides =>
    rintro s X Y ⟨hi, hl, hd⟩ m
    exact ⟨hI _ _ _ hi (m.loose _), m.same _ _ (by omega) hl, m.same _ _ (by omega) hd⟩
  case round =>
    rintro pre x W ⟨hi, hl, hd⟩ hlen
    have hlt : w.heap.size + 1 < W.heap.size := (Array.getElem?_eq_some_iff.1 hl).1
    refine ⟨fn, _, assign, body, run_yield (P := P) (args := encs x) hl (hps x), roundIn_of_wpIn hfn (hassign _ x W _ ⟨_, run_beginRound hl rfl, ?_⟩)⟩
    have i2 : I pre (W.putObj (w.heap.size + 1) (.loop { rcd .ready with state := .busy })) := hI _ _ _ hi (Loose.put _ (by omega) hl rfl)
    have l2 : (W.putObj (w.heap.size + 1) (.loop { rcd .ready with state := .busy })).heap[w.heap.size + 1]? = some (.loop { rcd .ready with state := .busy }) := World.putObj_heap_same hlt
    have d2 : (W.putObj (w.heap.size + 1) (.loop { rcd .ready with state := .busy })).heap[w.heap.size]? = some (.deferred (some [])) := (World.putObj_heap_other (by omega)).trans hd
    have k2 : Kp W (W.putObj (w.heap.size + 1) (.loop { rcd .ready with state := .busy })) := hKb _ _ _ (by omega)
    refine wpIn_mono (hbody _ pre x _ i2 hlen) ?_
    rintro e a3 W3 hp
    cases e with
    | normal =>
      obtain ⟨kf, kp, i3⟩ := hp
      have l3 := kf.same _ _ (by omega) l2 rfl
      have d3 := kf.same _ _ (Nat.le_refl _) d2 rfl
      have lt3 : w.heap.size + 1 < W3.heap.size := (Array.getElem?_eq_some_iff.1 l3).1
      have er := run_endRound (P := P) none l3
      refine ⟨_, _, er, rfl, ⟨hI _ _ _ i3 (Loose.put _ (by omega) l3 rfl), World.putObj_heap_same lt3, (World.putObj_heap_other (by omega)).trans d3⟩, hKt (hKt k2 kp) (hKb _ _ _ (by omega))⟩
    | ret => exact hp.elim
    | exit id => exact hp.elim
    | goto t => exact hp.elim
    | panic ch => exact hp.elim
    | outgrown => exact hp.elim
  case behind =>
    rintro e W2 ⟨⟨v, rfl⟩, xs, hS, hi, hl, hd⟩
    have el := run_endLoop (P := P) hl (by simp [rcd])
    exact ⟨none, _, el, hdone _ xs _ (Nat.le_refl _) hS (hI _ _ _ hi (Loose.put _ (by omega) hl rfl)) ((World.putObj_heap_other (by omega)).trans hd)⟩
end Go.Proofs.Ytloknemmodmkiaa
