/- A loop over a function that calls its body with known pairs of numbers, where the body always goes on and may write a variable and a row of the caller's: what the caller owes, and what it has behind the loop. -/
import Derived.RangeFuncNested
import Derived.RangeFuncBox
import Derived.RangeFuncSeq
namespace Go.Proofs.Ytdmaipebckbmpaa
open Go.RowKit

/-- Whatever lay there, but for blocks from B on that hold no cells, lies as it lay. -/
structure Loose (B : Nat) (W W' : World) : Prop where
  os : W'.os = W.os
  tape : W'.tape = W.tape
  output : W'.output = W.output
  size : W.heap.size ≤ W'.heap.size
  same : ∀ (k : Nat) (o : Obj), W.heap[k]? = some o → (k < B ∨ o.isCells = true) → W'.heap[k]? = some o

theorem loose_of {W W' : World} (h : Below W.heap.size W W') (B : Nat) : Loose B W W' :=
  ⟨h.os, h.tape, h.output, h.size, fun k _ ho _ => (h.block k (Array.getElem?_eq_some_iff.1 ho).1).trans ho⟩
theorem Loose.put {B l : Nat} {W : World} {o : Obj} (o' : Obj) (hl : B ≤ l) (ho : W.heap[l]? = some o) (hc : o.isCells = false) : Loose B W (W.putObj l o') := by
  refine ⟨rfl, rfl, rfl, by simp, fun k x hx hor => ?_⟩
  rw [World.putObj_heap_other, hx]
  rintro rfl
  rw [ho] at hx
  cases hx
  rcases hor with h | h
  · omega
  · rw [hc] at h; cases h

/-- The contract of a function that calls its body m times, the k-th time with A k and S k: J is the caller's word between two rounds, Kp what a round leaves alone. -/
def SeqAt (F : Fence) (n : Nat) (P : Program) (g : Nat) (lb : Array Value) (A S : Nat → Int) (Kp : World → World → Prop) (m : Nat) (w : World) : Prop :=
  ∀ (l : Nat) (J : Nat → World → Prop) (W : World), Below w.heap.size w W → (∀ k X Y, J k X → Below X.heap.size X Y → J k Y) →
    (∀ k W1, J k W1 → k < m → YieldAt F (n - 1) P l #[.int .i64 (A k), .int .i64 (S k)] W1 fun e W' => e = .returned (.bool true) ∧ J (k + 1) W' ∧ Kp W1 W') →
    J 0 W →
    CallsIn F n P g (#[.func (.yield l) #[] #[]] ++ lb) W fun e W' => (∃ v, e = .returned v) ∧ J m W'

/-- A body that always goes on. -/
def goesOn (B : Nat) (Kp : World → World → Prop) (I : Nat → World → Prop) (k : Nat) (W : World) : Exit → Act → World → Prop
  | .normal, _, W' => KeepsFrom B W W' ∧ Kp W W' ∧ I k W'
  | .ret, _, _ => False
  | .exit _, _, _ => False
  | .goto _, _, _ => False
  | .panic _, _, _ => False
  | .outgrown, _, _ => False

/-- The loop. -/
theorem wpIn_range_at {F : Fence} {n : Nat} {P : Program} {g : Operand} {ps : Array Tmp} {assign body : Code} {Q : Exit → Act → World → Prop} {a : Act} {w : World}
    (hro : F.round = none) (h1 : 1 ≤ n) {gf : Nat} {lb : Array Value} (hg : a.eval g = .func (.func gf) #[] lb) (hFg : F.fn gf) (eg : ∀ args w, (callFunc gf args).run P w = .ok (.enter gf args) w)
    {A S : Nat → Int} {Kp : World → World → Prop} {m : Nat} (hseq : SeqAt F (n - 1) P gf lb A S Kp m w)
    (hKt : ∀ {X Y Z : World}, Kp X Y → Kp Y Z → Kp X Z) (hKb : ∀ (W : World) (l : Nat) (o' : Obj), w.heap.size ≤ l → Kp W (W.putObj l o')) (hps : ps.size = 2)
    (I : Nat → World → Prop) (hI : ∀ k X Y, I k X → Loose w.heap.size X Y → I k Y) (h0 : I 0 w) (a₁ : Int → Int → Act)
    (hassign : ∀ (l : Nat) (x y : Int) (W : World) (K : Act → World → Prop), K (a₁ x y) W →
      assign.wpIn (F.inRound l) (n - 1 - 1) P (Exit.then K (fun _ _ _ => False)) { tmps := (ps.zip #[.int .i64 x, .int .i64 y]).foldl (fun t (p, v) => t.setIfInBounds p v) a.tmps, defers := [] } W)
    (hbody : ∀ (l k : Nat) (W : World), I k W → k < m → body.wpIn (F.inRound l) (n - 1 - 1) P (goesOn w.heap.size Kp I (k + 1) W) (a₁ (A k) (S k)) W)
    (hdone : ∀ (D : Nat) (W : World), w.heap.size ≤ D → I m W → W.heap[D]? = some (.deferred (some [])) → Q .normal { a with defers := { target := .collected D, args := #[] } :: a.defers } W) :
    (Code.rangeFunc g ps assign body).wpIn F n P Q a w := by
  refine wpIn_rangeFunc fun fn hfn => ?_
  rw [hro]
  let rcd : LoopState → Loop := fun st => { state := st, pending := none, fn, tmps := a.tmps, params := ps, assign, body, defers := w.heap.size }
  obtain ⟨V, hV⟩ : ∃ V, (w.alloc (.deferred (some []))).alloc (.loop (rcd .ready)) = V := ⟨_, rfl⟩
  have sz : (w.alloc (.deferred (some []))).heap.size = w.heap.size + 1 := by simp
  have atL : V.heap[w.heap.size + 1]? = some (.loop (rcd .ready)) := by
    rw [← hV, ← sz]; exact World.alloc_heap_new _ _
  have atD : V.heap[w.heap.size]? = some (.deferred (some [])) := by
    rw [← hV]; exact (Below.heap_alloc _ _ _ (by omega)).trans (World.alloc_heap_new w _)
  have mV : Below w.heap.size w V := by rw [← hV]; exact ((Below.refl _ w).alloc (Nat.le_refl _) _).alloc (by omega) _
  have iV : I 0 V := hI _ _ _ h0 (loose_of mV _)
  refine ⟨w.heap.size + 1, [{ target := .collected w.heap.size, args := #[] }], V, { target := .fn (.func gf) lb, args := #[.func (.yield (w.heap.size + 1)) #[] #[]] }, V, gf,
    #[.func (.yield (w.heap.size + 1)) #[] #[]] ++ lb, V, ?_, ?_, ?_, ?_, fun _ => h1, ?_⟩
  · rw [← hV]; exact run_enterLoop_outer _ _ _ _ _
  · simp only [resolve, hg]
    simp [go_sem]
  · intro f' hf'
    simp [Target.leads] at hf'
    subst hf'
    exact hFg
  · simp [invoke, go_sem, eg]
  refine (hseq (w.heap.size + 1) (fun k W => I k W ∧ W.heap[w.heap.size + 1]? = some (.loop (rcd .ready)) ∧ W.heap[w.heap.size]? = some (.deferred (some []))) V mV ?abides ?round ⟨iV, atL, atD⟩).mono ?behind
  case abides =>
    rintro k X Y ⟨hi, hl, hd⟩ m
    exact ⟨hI _ _ _ hi (loose_of m _), (m.block _ (Array.getElem?_eq_some_iff.1 hl).1).trans hl, (m.block _ (Array.getElem?_eq_some_iff.1 hd).1).trans hd⟩
  case round =>
    rintro k W ⟨hi, hl, hd⟩ hk
    have hlt : w.heap.size + 1 < W.heap.size := (Array.getElem?_eq_some_iff.1 hl).1
    refine ⟨fn, _, assign, body, run_yield (P := P) (args := #[.int .i64 (A k), .int .i64 (S k)]) hl hps.symm, roundIn_of_wpIn hfn (hassign _ (A k) (S k) W _ ⟨_, run_beginRound hl rfl, ?_⟩)⟩
    have i2 : I k (W.putObj (w.heap.size + 1) (.loop { rcd .ready with state := .busy })) := hI _ _ _ hi (Loose.put _ (by omega) hl rfl)
    have l2 : (W.putObj (w.heap.size + 1) (.loop { rcd .ready with state := .busy })).heap[w.heap.size + 1]? = some (.loop { rcd .ready with state := .busy }) := World.putObj_heap_same hlt
    have d2 : (W.putObj (w.heap.size + 1) (.loop { rcd .ready with state := .busy })).heap[w.heap.size]? = some (.deferred (some [])) := (World.putObj_heap_other (by omega)).trans hd
    have k2 : Kp W (W.putObj (w.heap.size + 1) (.loop { rcd .ready with state := .busy })) := hKb W _ _ (by omega)
    refine wpIn_mono (hbody _ k _ i2 hk) ?_
    rintro e a3 W3 hp
    cases e with
    | normal =>
      obtain ⟨kf, kp, i3⟩ := hp
      have l3 := kf.same _ _ (by omega) l2 rfl
      have d3 := kf.same _ _ (Nat.le_refl _) d2 rfl
      have lt3 : w.heap.size + 1 < W3.heap.size := (Array.getElem?_eq_some_iff.1 l3).1
      have er := run_endRound (P := P) none l3
      refine ⟨_, _, er, rfl, ⟨hI _ _ _ i3 (Loose.put _ (by omega) l3 rfl), World.putObj_heap_same lt3, (World.putObj_heap_other (by omega)).trans d3⟩, hKt (hKt k2 kp) (hKb W3 _ _ (by omega))⟩
    | ret => exact hp.elim
    | exit id => exact hp.elim
    | goto t => exact hp.elim
    | panic ch => exact hp.elim
    | outgrown => exact hp.elim
  case behind =>
    rintro e W2 ⟨⟨v, rfl⟩, hi, hl, hd⟩
    have el := run_endLoop (P := P) hl (by simp [rcd])
    exact ⟨none, _, el, hdone _ _ (Nat.le_refl _) (hI _ _ _ hi (Loose.put _ (by omega) hl rfl)) ((World.putObj_heap_other (by omega)).trans hd)⟩
end Go.Proofs.Ytdmaipebckbmpaa
