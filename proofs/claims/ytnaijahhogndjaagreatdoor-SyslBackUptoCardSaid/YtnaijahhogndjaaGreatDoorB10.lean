/- The texts ElemLists, Element, one behind the other. -/
import Derived.Test.YtnaijahhogndjaaGreatDoorB9
import Derived.RegionTactic
import Derived.BigRegion
import Derived.Laws.EntriesVeiled
import Derived.WalkMore
import Derived.Deep.RegionHeld3
/- The texts of names, parameters and elements, as lists; what element's second closure answers where a name stands ahead. -/
namespace Go.Proofs.YtnaijahhogndjaaGreatDoor
open Go.ChangeShapes Go.WideShapes Go.ChangeAt Go.RowKit

theorem no_any {l chars : List UInt8} (h : Lib.containsAny l chars = false) : ∀ b ∈ l, chars.contains b = false := by
  intro b hb
  cases hc : chars.contains b with
  | false => rfl
  | true =>
    exfalso
    unfold Lib.containsAny at h
    rw [indexAny_find] at h
    have hlt := List.findIdx_lt_length_of_exists (p := fun b => chars.contains b) ⟨b, hb, hc⟩
    rw [if_pos hlt] at h
    have := of_decide_eq_false h
    omega
theorem name_bytes {l : List UInt8} (h : nameB l = true) (b : UInt8) (hb : b ∈ l) : [61, 93, 34, 32].contains b = false ∧ b.toNat < 128 := by
  unfold nameB at h
  rw [Bool.and_eq_true, Bool.not_eq_true'] at h
  obtain ⟨hp, hn⟩ := h
  have h1 := no_any hn b hb
  unfold plainB at hp
  rw [Bool.and_eq_true, List.all_eq_true] at hp
  have h2 := of_decide_eq_true (hp.2 b hb)
  refine ⟨?_, by omega⟩
  have h32 : b ≠ 32 := fun h => by rw [h] at h2; revert h2; decide
  simp at h1 ⊢
  exact ⟨h1.1, h1.2.1, h1.2.2, h32⟩
theorem name_get {nm t : List UInt8} {c : UInt8} : (nm ++ c :: t)[nm.length]? = some c := by
  rw [List.getElem?_append_right (Nat.le_refl _)]; simp
theorem name_no {nm t : List UInt8} {c : UInt8} (h : nameB nm = true) : Lib.NoAny (nm ++ c :: t) [61, 93, 34, 32] nm.length := by
  intro j b hj hb
  rw [List.getElem?_append_left hj] at hb
  exact (name_bytes h b (List.mem_of_getElem? hb)).1
theorem name_asc {nm t : List UInt8} {c : UInt8} (h : nameB nm = true) (hc : c.toNat < 128) (j : Nat) (b : UInt8) (hj : j ≤ nm.length) (hb : (nm ++ c :: t)[j]? = some b) : b.toNat < 128 := by
  rcases Nat.lt_or_ge j nm.length with hl | hl
  · rw [List.getElem?_append_left hl] at hb
    exact (name_bytes h b (List.mem_of_getElem? hb)).2
  · obtain rfl : j = nm.length := by omega
    rw [name_get] at hb
    cases hb
    exact hc
theorem nameAt_name {nm t : List UInt8} {c : UInt8} (h : nameB nm = true) (hc : [61, 93, 34, 32].contains c = true) : nameAt (nm ++ c :: t) = nm.length := by
  have hi := Lib.indexAny_hit (name_no (t := t) (c := c) h) name_get hc
  rw [indexAny_find] at hi
  have hd : nameAt (nm ++ c :: t) = (nm ++ c :: t).findIdx fun b => [61, 93, 34, 32].contains b := rfl
  rw [hd]
  split at hi
  · omega
  · omega
/-- element's second closure where a name stands ahead, and one of the four signs behind it. -/
theorem name_good (nm t : List UInt8) (c : UInt8) (b : Nat) (w : World) (hn : nameB nm = true) (hcc : [61, 93, 34, 32].contains c = true) (hl : (nm ++ c :: t).length < 4294967281) (hb : b < w.heap.size)
    (hc : w.cell? ⟨b, 0, none⟩ = some (.string (bytes (nm ++ c :: t)))) (hf : w.frozen? ⟨b, 0, none⟩ = false) :
    Calls Tryz.prog 118 #[.pointer (some ⟨b, 0, none⟩)] w fun e w' => e = .returned (.string (bytes nm)) ∧ ∃ W, Below w.heap.size w W ∧ w' = W.setCell ⟨b, 0, none⟩ (.string (bytes (c :: t))) := by
  have h128 : c.toNat < 128 := by
    have : c = 61 ∨ c = 93 ∨ c = 34 ∨ c = 32 := by simpa using hcc
    rcases this with rfl | rfl | rfl | rfl <;> decide
  have h := name_of (nm ++ c :: t) b w hb hc hf (any_ends _ nm.length c w hl name_get hcc (name_no hn) (name_asc hn h128))
  rw [nameAt_name hn hcc] at h
  rw [List.take_left' rfl, List.drop_left' rfl] at h
  exact h

def prmT (p : Prm) : List UInt8 := 32 :: (p.1.data.toList ++ 61 :: 34 :: (valueL p.2.data.toList ++ [34]))
def prmsT (ps : List Prm) : List UInt8 := ps.flatMap prmT
def elmT (e : Elm) : List UInt8 := 91 :: (e.1.data.toList ++ (prmsT e.2 ++ [93]))
theorem prms_step {ps : List Prm} {k : Nat} {p : Prm} (h : ps[k]? = some p) (t : List UInt8) : prmsT (ps.drop k) ++ 93 :: t = 32 :: (p.1.data.toList ++ 61 :: 34 :: (valueL p.2.data.toList ++ 34 :: (prmsT (ps.drop (k + 1)) ++ 93 :: t))) := by
  obtain ⟨hk, hx⟩ := List.getElem?_eq_some_iff.1 h
  rw [List.drop_eq_getElem_cons hk, hx]
  simp [prmsT, prmT]
theorem prms_end {ps : List Prm} {k : Nat} (h : ps.length ≤ k) (t : List UInt8) : prmsT (ps.drop k) ++ 93 :: t = 93 :: t := by
  rw [List.drop_of_length_le h]; rfl
theorem prms_head (ps : List Prm) (t : List UInt8) : ∃ c r, prmsT ps ++ 93 :: t = c :: r ∧ [61, 93, 34, 32].contains c = true := by
  cases ps with
  | nil => exact ⟨93, t, rfl, rfl⟩
  | cons p ps => exact ⟨32, _, by simpa using prms_step (ps := p :: ps) (k := 0) rfl t, rfl⟩
theorem pre_hit (c : UInt8) (r : List UInt8) : Lib.hasPrefix (c :: r) [c] = true ∧ Lib.trimPrefix (c :: r) [c] = r := by
  have h1 : Lib.hasPrefix (c :: r) [c] = true := by simp [Lib.hasPrefix, List.isPrefixOf]
  exact ⟨h1, by unfold Lib.trimPrefix; rw [h1]; simp⟩
theorem pre_hit2 (c d : UInt8) (r : List UInt8) : Lib.hasPrefix (c :: d :: r) [c, d] = true ∧ Lib.trimPrefix (c :: d :: r) [c, d] = r := by
  have h1 : Lib.hasPrefix (c :: d :: r) [c, d] = true := by simp [Lib.hasPrefix, List.isPrefixOf]
  exact ⟨h1, by unfold Lib.trimPrefix; rw [h1]; simp⟩
theorem pre_miss (c d : UInt8) (r : List UInt8) (h : d ≠ c) : Lib.hasPrefix (d :: r) [c] = false ∧ Lib.trimPrefix (d :: r) [c] = d :: r := by
  have h1 : Lib.hasPrefix (d :: r) [c] = false := by simp [Lib.hasPrefix, List.isPrefixOf]; exact fun e => h e.symm
  exact ⟨h1, by unfold Lib.trimPrefix; rw [h1]; simp⟩
/-- element's first closure, where the sign is next, and where it isn't. -/
theorem sign_is (sep : ByteArray) (r r' : List UInt8) (f : Bool) (b : Nat) (w : World) (hp : Lib.hasPrefix r sep.data.toList = f ∧ Lib.trimPrefix r sep.data.toList = r') (hc : w.cell? ⟨b, 0, none⟩ = some (.string (bytes r))) (hf : w.frozen? ⟨b, 0, none⟩ = false) :
    Calls Tryz.prog 117 #[.string sep, .pointer (some ⟨b, 0, none⟩)] w fun e w' => e = .returned (.bool f) ∧ w' = w.setCell ⟨b, 0, none⟩ (.string (bytes r')) := by
  have h := sign_any sep r b w hc hf
  rw [hp.1, hp.2] at h
  exact h

/-- Parameters as cells. -/
def pcells (ps : List Prm) : List Value := ps.flatMap fun p => [.string p.1, .string p.2]
theorem pcells_push (ps : List Prm) (p : Prm) : pcells (ps ++ [p]) = pcells ps ++ [.string p.1, .string p.2] := by simp [pcells]
theorem pcells_at : ∀ (ps : List Prm) (j : Nat) (p : Prm), ps[j]? = some p → (pcells ps)[2 * j]? = some (.string p.1) ∧ (pcells ps)[2 * j + 1]? = some (.string p.2)
  | [], j, p, h => by simp at h
  | q :: ps, 0, p, h => by cases h; exact ⟨rfl, rfl⟩
  | q :: ps, j + 1, p, h => by
    have := pcells_at ps j p (by simpa using h)
    rw [show 2 * (j + 1) = 2 * j + 2 by omega, show 2 * j + 2 + 1 = (2 * j + 1) + 2 by omega]
    exact this
/-- What element's worlds hold of its variables: its answer, what is left, the list so far. -/
structure EAt (w W : World) (c0 lv : Value) (r : List UInt8) (ps : List Prm) : Prop where
  k0 : W.cell? ⟨w.heap.size, 0, none⟩ = some c0
  k1 : W.cell? ⟨w.heap.size, 1, none⟩ = some lv
  kr : W.cell? ⟨w.heap.size + 1, 0, none⟩ = some (.string (bytes r))
  z : w.heap.size + 1 < W.heap.size
  f0 : ∀ o, W.frozen? ⟨w.heap.size, o, none⟩ = false
  f1 : ∀ o, W.frozen? ⟨w.heap.size + 1, o, none⟩ = false
  b : Below w.heap.size w W
  own : W.ownsRow (w.heap.size + 2) 54 2 lv ps.length (pcells ps)
theorem kept_below {W W' : World} {base : Nat} {e : TypeId} {size n : Nat} {v : Value} {xs : List Value} (h : W.ownsRow base e size v n xs) (hb : Below W.heap.size W W') : W'.ownsRow base e size v n xs :=
  ⟨h.1, by
    rcases h.2 with hn | ⟨g, cap, cur, rfl, h1, hg, rest⟩
    · exact .inl hn
    · exact .inr ⟨g, cap, cur, rfl, h1, (hb.block g (Array.getElem?_eq_some_iff.1 hg).1).trans hg, rest⟩⟩
theorem kept_set {W : World} {base : Nat} {e : TypeId} {size n : Nat} {v : Value} {xs : List Value} (h : W.ownsRow base e size v n xs) (a : Addr) (u : Value) (hne : ∀ g, v.ownBlock = some g → g ≠ a.block) : (W.setCell a u).ownsRow base e size v n xs :=
  ⟨h.1, by
    rcases h.2 with hn | ⟨g, cap, cur, rfl, h1, hg, rest⟩
    · exact .inl hn
    · exact .inr ⟨g, cap, cur, rfl, h1, (Below.heap_setCell W a u g (hne g rfl)).trans hg, rest⟩⟩
variable {w W : World} {c0 lv : Value} {r : List UInt8} {ps : List Prm}
theorem EAt.below {W' : World} (h : EAt w W c0 lv r ps) (hb : Below W.heap.size W W') : EAt w W' c0 lv r ps := by
  have hz := h.z
  have hc : ∀ b o, b < W.heap.size → W'.cell? ⟨b, o, none⟩ = W.cell? ⟨b, o, none⟩ := (bcell hb).1
  have hf : ∀ b o, b < W.heap.size → W'.frozen? ⟨b, o, none⟩ = W.frozen? ⟨b, o, none⟩ := (bcell hb).2
  exact ⟨(hc _ _ (by omega)).trans h.k0, (hc _ _ (by omega)).trans h.k1, (hc _ _ (by omega)).trans h.kr, Nat.lt_of_lt_of_le hz hb.size, fun o => (hf _ _ (by omega)).trans (h.f0 o), fun o => (hf _ _ (by omega)).trans (h.f1 o),
    h.b.trans (hb.mono h.b.size), kept_below h.own hb⟩
theorem EAt.set0 (h : EAt w W c0 lv r ps) (v : Value) : EAt w (W.setCell ⟨w.heap.size, 0, none⟩ v) v lv r ps where
  k0 := by simp [go_sem, h.k0]
  k1 := by simp [go_sem, h.k1]
  kr := by simp [go_sem, h.kr]
  z := by have := h.z; simpa using this
  f0 := fun o => by have := h.f0 o; simpa [go_sem] using this
  f1 := fun o => by have := h.f1 o; simpa [go_sem] using this
  b := h.b.setCell (p := ⟨w.heap.size, 0, none⟩) (Nat.le_refl _) _
  own := kept_set h.own _ _ fun g hg => by have := (h.own.lt g hg).1; simp; omega
theorem EAt.set1 (h : EAt w W c0 lv r ps) : EAt w (W.setCell ⟨w.heap.size, 1, none⟩ lv) c0 lv r ps where
  k0 := by simp [go_sem, h.k0]
  k1 := by simp [go_sem, h.k1]
  kr := by simp [go_sem, h.kr]
  z := by have := h.z; simpa using this
  f0 := fun o => by have := h.f0 o; simpa [go_sem] using this
  f1 := fun o => by have := h.f1 o; simpa [go_sem] using this
  b := h.b.setCell (p := ⟨w.heap.size, 1, none⟩) (Nat.le_refl _) _
  own := kept_set h.own _ _ fun g hg => by have := (h.own.lt g hg).1; simp; omega
theorem EAt.setr (h : EAt w W c0 lv r ps) (r' : List UInt8) : EAt w (W.setCell ⟨w.heap.size + 1, 0, none⟩ (.string (bytes r'))) c0 lv r' ps where
  k0 := by simp [go_sem, h.k0]
  k1 := by simp [go_sem, h.k1]
  kr := by simp [go_sem, h.kr]
  z := by have := h.z; simpa using this
  f0 := fun o => by have := h.f0 o; simpa [go_sem] using this
  f1 := fun o => by have := h.f1 o; simpa [go_sem] using this
  b := h.b.setCell (p := ⟨w.heap.size + 1, 0, none⟩) (by simp) _
  own := kept_set h.own _ _ fun g hg => by have := (h.own.lt g hg).1; simp; omega
theorem EAt.other (h : EAt w W c0 lv r ps) {b o : Nat} (hb : w.heap.size + 2 ≤ b) (hne : ∀ g, lv.ownBlock = some g → g < b) (v : Value) : EAt w (W.setCell ⟨b, o, none⟩ v) c0 lv r ps where
  k0 := by rw [World.cell?_of_block (Below.heap_setCell W _ v _ (by simp; omega))]; exact h.k0
  k1 := by rw [World.cell?_of_block (Below.heap_setCell W _ v _ (by simp; omega))]; exact h.k1
  kr := by rw [World.cell?_of_block (Below.heap_setCell W _ v _ (by simp; omega))]; exact h.kr
  z := by have := h.z; simpa using this
  f0 := fun o' => by rw [World.frozen?_of_block (Below.heap_setCell W _ v _ (by simp; omega))]; exact h.f0 o'
  f1 := fun o' => by rw [World.frozen?_of_block (Below.heap_setCell W _ v _ (by simp; omega))]; exact h.f1 o'
  b := h.b.setCell (p := ⟨b, o, none⟩) (by simp; omega) _
  own := kept_set h.own _ _ fun g hg => by have := hne g hg; simp; omega
theorem EAt.push {w' : World} {v' : Value} {p : Prm} (h : EAt w W c0 lv r ps) (hg : W.grownBy w' lv.ownBlock) (hown : w'.ownsRow (w.heap.size + 2) 54 2 v' (ps.length + 1) (pcells ps ++ [.string p.1, .string p.2])) :
    EAt w (w'.setCell ⟨w.heap.size, 1, none⟩ v') c0 v' r (ps ++ [p]) := by
  have hz := h.z
  have hrow : ∀ k, lv.ownBlock = some k → w.heap.size + 2 ≤ k := fun k hk => (h.own.lt k hk).1
  have hne : ∀ b, b < w.heap.size + 2 → some b ≠ lv.ownBlock := fun b hb he => by have := hrow b he.symm; omega
  have hc : ∀ b o, b < w.heap.size + 2 → w'.cell? ⟨b, o, none⟩ = W.cell? ⟨b, o, none⟩ := fun b o hb => World.cell?_of_block (hg.block b (by omega) (hne b hb))
  have hf : ∀ b o, b < w.heap.size + 2 → w'.frozen? ⟨b, o, none⟩ = W.frozen? ⟨b, o, none⟩ := fun b o hb => World.frozen?_of_block (hg.block b (by omega) (hne b hb))
  have e0 := (hc w.heap.size 0 (by omega)).trans h.k0
  have e1 := (hc w.heap.size 1 (by omega)).trans h.k1
  have er := (hc (w.heap.size + 1) 0 (by omega)).trans h.kr
  refine ⟨by simp [go_sem, e0], by simp [go_sem, e1], by simp [go_sem, er], by have := hg.size; simp; omega, fun o => ?_, fun o => ?_, ?_, ?_⟩
  · have := (hf w.heap.size o (by omega)).trans (h.f0 o); simpa [go_sem] using this
  · have := (hf (w.heap.size + 1) o (by omega)).trans (h.f1 o); simpa [go_sem] using this
  · exact (h.b.grown hg h.b.size fun k hk => by have := hrow k hk; omega).setCell (p := ⟨w.heap.size, 1, none⟩) (Nat.le_refl _) _
  · rw [pcells_push, List.length_append]
    exact kept_set hown _ _ fun g hg' => by have := (hown.lt g hg').1; simp; omega
theorem EAt.grown {w' : World} (h : EAt w W c0 lv r ps) (hg : W.grownBy w' lv.ownBlock) : (∀ o, w'.frozen? ⟨w.heap.size, o, none⟩ = false) ∧ w'.cell? ⟨w.heap.size, 1, none⟩ = some lv := by
  have hz := h.z
  have hne : some w.heap.size ≠ lv.ownBlock := fun he => by have := (h.own.lt _ he.symm).1; omega
  exact ⟨fun o => (World.frozen?_of_block (a := ⟨w.heap.size, o, none⟩) (hg.block w.heap.size (by omega) hne)).trans (h.f0 o), (World.cell?_of_block (a := ⟨w.heap.size, 1, none⟩) (hg.block w.heap.size (by omega) hne)).trans h.k1⟩
/-- The list's value, and what it holds. -/
theorem EAt.prms (h : EAt w W c0 lv r ps) : ∃ la lc, lv = .slice la ps.length lc ∧ ∀ j p, ps[j]? = some p → ∃ b, la = some ⟨b, 0, none⟩ ∧ w.heap.size + 2 ≤ b ∧ b < W.heap.size ∧ W.cell? ⟨b, 2 * j, none⟩ = some (.string p.1) ∧ W.cell? ⟨b, 2 * j + 1, none⟩ = some (.string p.2) := by
  have hcells := h.own
  rcases h.own.2 with ⟨hv, hn⟩ | ⟨g, cap, cur, hv, hb, hg, hcap, hmax, hsz, htake⟩
  · rw [hv, hn]
    exact ⟨none, 0, rfl, fun j p hp => by rw [List.eq_nil_of_length_eq_zero hn] at hp; simp at hp⟩
  · refine ⟨some ⟨g, 0, none⟩, cap, hv, fun j p hp => ⟨g, rfl, hb, (Array.getElem?_eq_some_iff.1 hg).1, ?_, ?_⟩⟩
    · have hj := (List.getElem?_eq_some_iff.1 hp).1
      rw [hv] at hcells
      rw [hcells.cellAt _ (by omega)]
      exact (pcells_at ps j p hp).1
    · have hj := (List.getElem?_eq_some_iff.1 hp).1
      rw [hv] at hcells
      rw [hcells.cellAt _ (by omega)]
      exact (pcells_at ps j p hp).2
end Go.Proofs.YtnaijahhogndjaaGreatDoor
/- What sysl.element answers of the text of an element that may be. -/
namespace Go.Proofs.YtnaijahhogndjaaGreatDoor
open Go.ChangeShapes Go.WideShapes Go.ChangeAt Go.RowKit

theorem info54 : (Tryz.prog.info? 54).map (fun i => (i.zero, i.size, i.bytes)) = some (some (.agg #[.string ⟨#[]⟩, .string ⟨#[]⟩]), 2, 32) := by kernel_rfl
theorem info54_of : ∃ i, Tryz.prog.info? 54 = some i ∧ i.zero = some (.agg #[.string ⟨#[]⟩, .string ⟨#[]⟩]) ∧ i.size = 2 ∧ i.bytes = 32 := by
  have h := info54
  cases hi : Tryz.prog.info? 54 with
  | none => rw [hi] at h; cases h
  | some j => rw [hi] at h; simp only [Option.map_some, Option.some.injEq, Prod.mk.injEq] at h; exact ⟨j, rfl, h.1, h.2.1, h.2.2⟩
theorem slice_of {W : World} {base : Nat} {e : TypeId} {size n : Nat} {v : Value} {xs : List Value} (h : W.ownsRow base e size v (n + 1) xs) : ∃ a c, v = .slice a (n + 1) c := by
  rcases h.2 with ⟨_, hn⟩ | ⟨g, cap, cur, rfl, _⟩
  · omega
  · exact ⟨_, _, rfl⟩
/-- What element answers: the element, what is left. -/
def ElemAns (w : World) (e : Elm) (t : List UInt8) (x : Ending) (w' : World) : Prop :=
  ∃ la lc, x = .returned (.tuple #[.agg #[.string e.1, .slice la e.2.length lc], .string (bytes t), .bool true]) ∧ Below w.heap.size w w' ∧ w'.ownsRow (w.heap.size + 2) 54 2 (.slice la e.2.length lc) e.2.length (pcells e.2)
set_option maxHeartbeats 8000000 in
set_option maxRecDepth 100000 in
theorem element_good (e : Elm) (t : List UInt8) (w : World) (hn : nameB e.1.data.toList = true) (hps : ∀ p ∈ e.2, nameB p.1.data.toList = true) (h64 : e.2.length ≤ 64) (hl : (elmT e ++ t).length ≤ 1073741824) :
    Calls Tryz.prog 87 #[.string (bytes (elmT e ++ t))] w (ElemAns w e t) := by
  obtain ⟨i0, hi, hz0, hz1, hz2⟩ := info54_of
  have HI := Lib.hid hi
  have HI0 := Lib.hid hz0
  have HI1 := Lib.hid hz1
  have HI2 := Lib.hid hz2
  clear hi hz0 hz1 hz2
  obtain ⟨id, ps⟩ := e
  obtain ⟨r0, hr0⟩ : ∃ r0, id.data.toList ++ (prmsT ps ++ 93 :: t) = r0 := ⟨_, rfl⟩
  have hT : elmT (id, ps) ++ t = 91 :: r0 := by rw [← hr0]; simp [elmT]
  obtain ⟨c1, r1, hr1, hc1⟩ := prms_head ps t
  have hr01 : id.data.toList ++ c1 :: r1 = r0 := by rw [← hr0, hr1]
  have hl0 : r0.length + 1 ≤ 1073741824 := by rw [hT] at hl; simpa using hl
  have hl1 : r1.length + 1 ≤ 1073741824 := by rw [← hr01] at hl0; simp at hl0; omega
  rw [hT]
  have S1 := Lib.hid (fun b W hc hf => sign_is ⟨#[91]⟩ (91 :: r0) r0 true b W (pre_hit 91 r0) hc hf)
  have N1 := Lib.hid (fun b W hb hc hf => name_good id.data.toList r1 c1 b W hn hc1 (by rw [hr01]; omega) hb hc hf)
  rw [hr01, bytes_self] at N1
  have HR1 := Lib.hid hr1
  have HPS := Lib.hid hps
  have HL1 := Lib.hid hl1
  clear hT hr0 hr01 hc1 hl hl0 hn hps
  go_enter Tryz.func87, Tryz.ntmps87
  go_wp2_with fail
  obtain ⟨W0, hW0⟩ : ∃ W0, ((w.alloc (.cells #[.string ⟨#[]⟩, .slice none 0 0] 52)).alloc (.cells #[.string (bytes (91 :: r0))] 9)) = W0 := ⟨_, rfl⟩
  have h0 : EAt w W0 (.string ⟨#[]⟩) (.slice none 0 0) (91 :: r0) [] := by
    rw [← hW0]
    constructor
    · simp [go_sem]
    · simp [go_sem]
    · simp [go_sem]
    · simp
    · intro o; simp [go_sem]
    · intro o; simp [go_sem]
    · exact ((Below.refl _ _).alloc (Nat.le_refl _) _).alloc (by simp) _
    · exact World.ownsRow_nil _ _ _ _
  rw [hW0]
  clear hW0
  refine (S1.out _ _ h0.kr (h0.f1 0)).mono ?_
  rintro x W1 ⟨rfl, rfl⟩
  have h1 := h0.setr r0
  clear h0
  generalize W0.setCell ⟨w.heap.size + 1, 0, none⟩ (.string (bytes r0)) = W1 at h1 ⊢
  go_wp2_with fail
  refine (N1.out _ _ h1.z h1.kr (h1.f1 0)).mono ?_
  rintro x W2 ⟨rfl, V2, hB, rfl⟩
  have h2 := (h1.below hB).setr (c1 :: r1)
  rw [← HR1.out] at h2 ⊢
  clear h1 hB
  generalize V2.setCell ⟨w.heap.size + 1, 0, none⟩ (.string (bytes (prmsT ps ++ 93 :: t))) = W2 at h2 ⊢
  have k0 := h2.k0
  have f0 := h2.f0
  have h3 := h2.set0 (.string id)
  clear h2
  go_wp2
  clear k0 f0
  generalize W2.setCell ⟨w.heap.size, 0, none⟩ (.string id) = W3 at h3 ⊢
  clear S1 N1
  go_loopg [4] (ps.length + 1) (fun g v wr => ∃ (k : Nat) (lv : Value), k ≤ ps.length ∧ k + g = ps.length + 1 ∧ v = .bool true ∧ EAt w wr (.string id) lv (prmsT (ps.drop k) ++ 93 :: t) (ps.take k))
  case atStart => exact ⟨0, _, Nat.zero_le _, by omega, rfl, by simpa using h3⟩
  case round =>
    obtain ⟨k, lv, hk, hg, rfl, hE⟩ := hrel
    obtain ⟨la, lc, hlv, hin⟩ := hE.prms
    have hkl : (ps.take k).length = k := by rw [List.length_take]; omega
    rw [hkl] at hlv
    subst hlv
    have k1 := hE.k1
    by_cases hlt : k < ps.length
    · obtain ⟨p, hp⟩ : ∃ p, ps[k]? = some p := ⟨ps[k]'hlt, List.getElem?_eq_getElem _⟩
      have hstep := prms_step hp t
      have hnm : nameB p.1.data.toList = true := HPS.out p (List.mem_of_getElem? hp)
      obtain ⟨R', hR'⟩ : ∃ R', prmsT (ps.drop (k + 1)) ++ 93 :: t = R' := ⟨_, rfl⟩
      rw [hR'] at hstep
      have hlen : (prmsT (ps.drop k) ++ 93 :: t).length ≤ 1073741824 := by
        have e1 : prmsT ps = prmsT (ps.take k) ++ prmsT (ps.drop k) := by
          unfold prmsT; rw [← List.flatMap_append, List.take_append_drop]
        have e2 := congrArg List.length HR1.out
        rw [e1] at e2
        have e3 := HL1.out
        simp at e2 ⊢
        omega
      rw [hstep] at hE hlen
      obtain ⟨q, hq⟩ : ∃ q, valueL p.2.data.toList ++ 34 :: R' = q := ⟨_, rfl⟩
      rw [hq] at hE hlen
      have hTV : takeV (bytes q).data.toList = some (p.2.data.toList, R') := by rw [bytes_list, ← hq]; exact takeV_value _ _
      have hql : q.length ≤ 1073741824 := by simp at hlen; omega
      obtain ⟨q1, hq1⟩ : ∃ q1, p.1.data.toList ++ 61 :: 34 :: q = q1 := ⟨_, rfl⟩
      rw [hq1] at hE hlen
      have SB := Lib.hid (fun b W hc hf => sign_is ⟨#[32]⟩ (32 :: q1) q1 true b W (pre_hit 32 q1) hc hf)
      have NM := Lib.hid (fun b W hb hc hf => name_good p.1.data.toList (34 :: q) 61 b W hnm rfl (by rw [hq1]; simp at hlen; omega) hb hc hf)
      rw [hq1, bytes_self] at NM
      have S2 := Lib.hid (fun b W hc hf => sign_is ⟨#[61, 34]⟩ (61 :: 34 :: q) q true b W (pre_hit2 61 34 q) hc hf)
      have TV : Hid (∀ W, Calls Tryz.prog 120 #[.string (bytes q)] W fun e w' => e = .returned (.tuple #[.string p.2, .string (bytes R'), .bool true]) ∧ Below W.heap.size W w') := Lib.hid fun W => by
        have h := takes_any (bytes q) W (by rw [bytes_size]; omega)
        rw [hTV, ends3, bytes_self] at h
        exact h
      have HP := Lib.hid hp
      have HST := Lib.hid hR'
      clear hq hq1 hTV hp hnm hstep hR' hlen
      have hk64 : k < 64 := by omega
      go_wp2_with fail
      refine (SB.out _ _ hE.kr (hE.f1 0)).mono ?_
      rintro x W4 ⟨rfl, rfl⟩
      have h4 := hE.setr q1
      have k1 := h4.k1
      clear hE
      generalize wr.setCell ⟨w.heap.size + 1, 0, none⟩ (.string (bytes q1)) = W4 at h4 k1 ⊢
      go_wp2_with fail
      refine (NM.out _ _ h4.z h4.kr (h4.f1 0)).mono ?_
      rintro x W5 ⟨rfl, V5, hB5, rfl⟩
      have h5 := (h4.below hB5).setr (61 :: 34 :: q)
      clear h4 hB5
      generalize V5.setCell ⟨w.heap.size + 1, 0, none⟩ (.string (bytes (61 :: 34 :: q))) = W5 at h5 ⊢
      go_wp2_with fail
      have h5' := h5.below (W' := W5.alloc (.cells #[.string p.1, .string ⟨#[]⟩] 54)) ((Below.refl _ _).alloc (Nat.le_refl _) _)
      have hz5 := h5.z
      refine (S2.out _ _ h5'.kr (h5'.f1 0)).mono ?_
      rintro x W6 ⟨rfl, rfl⟩
      have h6 := h5'.setr q
      have p0 : ((W5.alloc (.cells #[.string p.1, .string ⟨#[]⟩] 54)).setCell ⟨w.heap.size + 1, 0, none⟩ (.string (bytes q))).cell? ⟨W5.heap.size, 0, none⟩ = some (.string p.1) := by
        rw [World.cell?_of_block (Below.heap_setCell _ _ _ _ (by simp; omega))]; simp [go_sem]
      have p1 : ((W5.alloc (.cells #[.string p.1, .string ⟨#[]⟩] 54)).setCell ⟨w.heap.size + 1, 0, none⟩ (.string (bytes q))).cell? ⟨W5.heap.size, 1, none⟩ = some (.string ⟨#[]⟩) := by
        rw [World.cell?_of_block (Below.heap_setCell _ _ _ _ (by simp; omega))]; simp [go_sem]
      have pf : ∀ o, ((W5.alloc (.cells #[.string p.1, .string ⟨#[]⟩] 54)).setCell ⟨w.heap.size + 1, 0, none⟩ (.string (bytes q))).frozen? ⟨W5.heap.size, o, none⟩ = false := by
        intro o; rw [World.frozen?_of_block (Below.heap_setCell _ _ _ _ (by simp; omega))]; simp [go_sem]
      have pz : W5.heap.size < ((W5.alloc (.cells #[.string p.1, .string ⟨#[]⟩] 54)).setCell ⟨w.heap.size + 1, 0, none⟩ (.string (bytes q))).heap.size := by simp
      have hown5 : ∀ g, (Value.slice la k lc).ownBlock = some g → g < W5.heap.size := fun g hg => (h5.own.lt g hg).2
      clear h5'
      generalize ((W5.alloc (.cells #[.string p.1, .string ⟨#[]⟩] 54)).setCell ⟨w.heap.size + 1, 0, none⟩ (.string (bytes q))) = W6 at h6 p0 p1 pf pz ⊢
      obtain ⟨P, hP⟩ : ∃ P, W5.heap.size = P := ⟨_, rfl⟩
      rw [hP] at p0 p1 pf pz hown5 hz5 ⊢
      clear h5 hP
      have kr := h6.kr
      go_wp2_with fail
      refine (TV.out _).mono ?_
      rintro x W7 ⟨rfl, hB7⟩
      have h7 := h6.below hB7
      have q0 := ((bcell hB7).1 P 0 pz).trans p0
      have q1 := ((bcell hB7).1 P 1 pz).trans p1
      have qf := fun o => ((bcell hB7).2 P o pz).trans (pf o)
      clear h6 hB7 p0 p1 pf pz kr k1
      have n1 : ¬ P = w.heap.size := by omega
      have n2 : ¬ w.heap.size = P := by omega
      have n3 : ¬ P = w.heap.size + 1 := by omega
      have n4 : ¬ w.heap.size + 1 = P := by omega
      have h8 := (h7.other (b := P) (o := 1) (by omega) hown5 (.string p.2)).setr R'
      have k1 := h7.k1
      have kr := h7.kr
      have f0 := h7.f0
      have f1 := h7.f1
      have h9 := h8.below (W' := ((W7.setCell ⟨P, 1, none⟩ (.string p.2)).setCell ⟨w.heap.size + 1, 0, none⟩ (.string (bytes R'))).alloc (.cells #[.string p.1, .string p.2] 54)) ((Below.refl _ _).alloc (Nat.le_refl _) _)
      have own9 := h9.own
      rw [hkl] at own9
      have H9 := Lib.hid h9
      have O9 := Lib.hid own9
      have hz9 := h8.z
      have hN := cells_new ((W7.setCell ⟨P, 1, none⟩ (.string p.2)).setCell ⟨w.heap.size + 1, 0, none⟩ (.string (bytes R'))) #[.string p.1, .string p.2] 54
      rw [show ((W7.setCell ⟨P, 1, none⟩ (.string p.2)).setCell ⟨w.heap.size + 1, 0, none⟩ (.string (bytes R'))).heap.size = W7.heap.size by simp] at hN
      have HN := Lib.hid hN
      clear hN
      clear h9 h8 h7 own9
      go_wp2_with (at_builtin; refine wpList_append_own _ rfl _ _ 50 rfl (w.heap.size + 2) 54 i0 (.agg #[.string ⟨#[]⟩, .string ⟨#[]⟩]) 2 32 Tryz.underlying50 HI.out HI0.out HI1.out HI2.out rfl (by decide) _ k _ rfl O9.out ⟨W7.heap.size, 0, none⟩ 1 1 [.string p.1, .string p.2] rfl rfl HN.out (by simp [Value.oneCell']) (by unfold maxLen; omega) (by omega) (by simp at hz9 ⊢; omega) ?_; intro v1 w1 hown1 hgrow1 _; obtain ⟨a1, cap1, rfl⟩ := slice_of hown1; have ga := (H9.out.grown hgrow1).1; have gb := (H9.out.grown hgrow1).2)
      have hpush := H9.out.push hgrow1 (p := p) (by rw [hkl]; exact hown1)
      have htk : ps.take (k + 1) = ps.take k ++ [p] := by
        obtain ⟨hk2, hx⟩ := List.getElem?_eq_some_iff.1 HP.out
        rw [List.take_succ_eq_append_getElem hk2, hx]
      rw [← htk, ← HST.out] at hpush
      go_roundg (gk - 1)
      case measure => omega
      case rel => exact ⟨k + 1, _, by omega, by omega, rfl, hpush⟩
    · obtain rfl : k = ps.length := by omega
      rw [prms_end (Nat.le_refl _)] at hE
      have SM := Lib.hid (fun b W hc hf => sign_is ⟨#[32]⟩ (93 :: t) (93 :: t) false b W (pre_miss 32 93 t (by decide)) hc hf)
      have SB := Lib.hid (fun b W hc hf => sign_is ⟨#[93]⟩ (93 :: t) t true b W (pre_hit 93 t) hc hf)
      have htk : ps.take ps.length = ps := List.take_length
      by_cases hk64 : ps.length < 64
      · go_wp2_with fail
        refine (SM.out _ _ hE.kr (hE.f1 0)).mono ?_
        rintro x W4 ⟨rfl, rfl⟩
        have h4 := hE.setr (93 :: t)
        clear hE k1
        generalize wr.setCell ⟨w.heap.size + 1, 0, none⟩ (.string (bytes (93 :: t))) = W4 at h4 ⊢
        go_wp2_with fail
        refine (SB.out _ _ h4.kr (h4.f1 0)).mono ?_
        rintro x W5 ⟨rfl, rfl⟩
        have h5 := h4.setr t
        clear h4
        generalize W4.setCell ⟨w.heap.size + 1, 0, none⟩ (.string (bytes t)) = W5 at h5 ⊢
        have k0 : W5.drew.cell? ⟨w.heap.size, 0, none⟩ = some (.string id) := h5.k0
        have k1 : W5.drew.cell? ⟨w.heap.size, 1, none⟩ = some (.slice la ps.length lc) := h5.k1
        have kr : W5.drew.cell? ⟨w.heap.size + 1, 0, none⟩ = some (.string (bytes t)) := h5.kr
        have f0 : ∀ o, W5.drew.frozen? ⟨w.heap.size, o, none⟩ = false := h5.f0
        have f1 : ∀ o, W5.drew.frozen? ⟨w.heap.size + 1, o, none⟩ = false := h5.f1
        have k0' := h5.k0
        have k1' := h5.k1
        have kr' := h5.kr
        have f0' := h5.f0
        have f1' := h5.f1
        go_wp2
        go_region
        go_wp2
        change bodyPost Tryz.prog Tryz.f87 (ElemAns w (id, ps) t) Exit.ret _ _
        have hfin := ((((h5.set0 (.string id)).set1).setr t).below ((Below.refl _ _).drew))
        rw [htk] at hfin
        refine bodyPost_ret (v := .tuple #[.agg #[.string id, .slice la ps.length lc], .string (bytes t), .bool true]) (by simp [results, Tryz.results87, go_sem, k0', k1', kr']) rfl ⟨la, lc, rfl, hfin.b, hfin.own⟩
      · have h4 := hE
        clear hE
        go_wp2_with fail
        refine (SB.out _ _ h4.kr (h4.f1 0)).mono ?_
        rintro x W5 ⟨rfl, rfl⟩
        have h5 := h4.setr t
        clear h4
        generalize wr.setCell ⟨w.heap.size + 1, 0, none⟩ (.string (bytes t)) = W5 at h5 ⊢
        have k0 : W5.drew.cell? ⟨w.heap.size, 0, none⟩ = some (.string id) := h5.k0
        have k1 : W5.drew.cell? ⟨w.heap.size, 1, none⟩ = some (.slice la ps.length lc) := h5.k1
        have kr : W5.drew.cell? ⟨w.heap.size + 1, 0, none⟩ = some (.string (bytes t)) := h5.kr
        have f0 : ∀ o, W5.drew.frozen? ⟨w.heap.size, o, none⟩ = false := h5.f0
        have f1 : ∀ o, W5.drew.frozen? ⟨w.heap.size + 1, o, none⟩ = false := h5.f1
        have k0' := h5.k0
        have k1' := h5.k1
        have kr' := h5.kr
        have f0' := h5.f0
        have f1' := h5.f1
        go_wp2
        go_region
        go_wp2
        change bodyPost Tryz.prog Tryz.f87 (ElemAns w (id, ps) t) Exit.ret _ _
        have hfin := ((((h5.set0 (.string id)).set1).setr t).below ((Below.refl _ _).drew))
        rw [htk] at hfin
        refine bodyPost_ret (v := .tuple #[.agg #[.string id, .slice la ps.length lc], .string (bytes t), .bool true]) (by simp [results, Tryz.results87, go_sem, k0', k1', kr']) rfl ⟨la, lc, rfl, hfin.b, hfin.own⟩
end Go.Proofs.YtnaijahhogndjaaGreatDoor
