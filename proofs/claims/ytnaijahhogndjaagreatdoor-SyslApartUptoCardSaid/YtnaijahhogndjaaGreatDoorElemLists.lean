/- The texts of names, parameters and elements, as lists; what element's second closure answers where a name stands ahead. -/
import Derived.Test.YtnaijahhogndjaaGreatDoorNear
import Derived.Test.YtnaijahhogndjaaGreatDoorValueLists
namespace Go.Proofs.YtnaijahhogndjaaGreatDoor
open Go.ChangeShapes Go.WideShapes Go.ChangeAt Go.RowKit

theorem no_any {l chars : List UInt8} (h : Lib.containsAny l chars = false) : ∀ b ∈ l, chars.contains b = false := by
  intro b hb
  cases hc : chars.contains b with
  | false => rfl
  | true =>
    exfalso
    unfold Lib.containsAny at h
    rw [indexAny_find] at h
    have hlt := List.findIdx_lt_length_of_exists (p := fun b => chars.contains b) ⟨b, hb, hc⟩
    rw [if_pos hlt] at h
    have := of_decide_eq_false h
    omega
theorem name_bytes {l : List UInt8} (h : nameB l = true) (b : UInt8) (hb : b ∈ l) : [61, 93, 34, 32].contains b = false ∧ b.toNat < 128 := by
  unfold nameB at h
  rw [Bool.and_eq_true, Bool.not_eq_true'] at h
  obtain ⟨hp, hn⟩ := h
  have h1 := no_any hn b hb
  unfold plainB at hp
  rw [Bool.and_eq_true, List.all_eq_true] at hp
  have h2 := of_decide_eq_true (hp.2 b hb)
  refine ⟨?_, by omega⟩
  have h32 : b ≠ 32 := fun h => by rw [h] at h2; revert h2; decide
  simp at h1 ⊢
  exact ⟨h1.1, h1.2.1, h1.2.2, h32⟩
theorem name_get {nm t : List UInt8} {c : UInt8} : (nm ++ c :: t)[nm.length]? = some c := by
  rw [List.getElem?_append_right (Nat.le_refl _)]; simp
theorem name_no {nm t : List UInt8} {c : UInt8} (h : nameB nm = true) : Lib.NoAny (nm ++ c :: t) [61, 93, 34, 32] nm.length := by
  intro j b hj hb
  rw [List.getElem?_append_left hj] at hb
  exact (name_bytes h b (List.mem_of_getElem? hb)).1
theorem name_asc {nm t : List UInt8} {c : UInt8} (h : nameB nm = true) (hc : c.toNat < 128) (j : Nat) (b : UInt8) (hj : j ≤ nm.length) (hb : (nm ++ c :: t)[j]? = some b) : b.toNat < 128 := by
  rcases Nat.lt_or_ge j nm.length with hl | hl
  · rw [List.getElem?_append_left hl] at hb
    exact (name_bytes h b (List.mem_of_getElem? hb)).2
  · obtain rfl : j = nm.length := by omega
    rw [name_get] at hb
    cases hb
    exact hc
theorem nameAt_name {nm t : List UInt8} {c : UInt8} (h : nameB nm = true) (hc : [61, 93, 34, 32].contains c = true) : nameAt (nm ++ c :: t) = nm.length := by
  have hi := Lib.indexAny_hit (name_no (t := t) (c := c) h) name_get hc
  rw [indexAny_find] at hi
  have hd : nameAt (nm ++ c :: t) = (nm ++ c :: t).findIdx fun b => [61, 93, 34, 32].contains b := rfl
  rw [hd]
  split at hi
  · omega
  · omega
/-- element's second closure where a name stands ahead, and one of the four signs behind it. -/
theorem name_good (nm t : List UInt8) (c : UInt8) (b : Nat) (w : World) (hn : nameB nm = true) (hcc : [61, 93, 34, 32].contains c = true) (hl : (nm ++ c :: t).length < 4294967281) (hb : b < w.heap.size)
    (hc : w.cell? ⟨b, 0, none⟩ = some (.string (bytes (nm ++ c :: t)))) (hf : w.frozen? ⟨b, 0, none⟩ = false) :
    Calls Tryz.prog 118 #[.pointer (some ⟨b, 0, none⟩)] w fun e w' => e = .returned (.string (bytes nm)) ∧ ∃ W, Below w.heap.size w W ∧ w' = W.setCell ⟨b, 0, none⟩ (.string (bytes (c :: t))) := by
  have h128 : c.toNat < 128 := by
    have : c = 61 ∨ c = 93 ∨ c = 34 ∨ c = 32 := by simpa using hcc
    rcases this with rfl | rfl | rfl | rfl <;> decide
  have h := name_of (nm ++ c :: t) b w hb hc hf (any_ends _ nm.length c w hl name_get hcc (name_no hn) (name_asc hn h128))
  rw [nameAt_name hn hcc] at h
  rw [List.take_left' rfl, List.drop_left' rfl] at h
  exact h

def prmT (p : Prm) : List UInt8 := 32 :: (p.1.data.toList ++ 61 :: 34 :: (valueL p.2.data.toList ++ [34]))
def prmsT (ps : List Prm) : List UInt8 := ps.flatMap prmT
def elmT (e : Elm) : List UInt8 := 91 :: (e.1.data.toList ++ (prmsT e.2 ++ [93]))
theorem prms_step {ps : List Prm} {k : Nat} {p : Prm} (h : ps[k]? = some p) (t : List UInt8) : prmsT (ps.drop k) ++ 93 :: t = 32 :: (p.1.data.toList ++ 61 :: 34 :: (valueL p.2.data.toList ++ 34 :: (prmsT (ps.drop (k + 1)) ++ 93 :: t))) := by
  obtain ⟨hk, hx⟩ := List.getElem?_eq_some_iff.1 h
  rw [List.drop_eq_getElem_cons hk, hx]
  simp [prmsT, prmT]
theorem prms_end {ps : List Prm} {k : Nat} (h : ps.length ≤ k) (t : List UInt8) : prmsT (ps.drop k) ++ 93 :: t = 93 :: t := by
  rw [List.drop_of_length_le h]; rfl
theorem prms_head (ps : List Prm) (t : List UInt8) : ∃ c r, prmsT ps ++ 93 :: t = c :: r ∧ [61, 93, 34, 32].contains c = true := by
  cases ps with
  | nil => exact ⟨93, t, rfl, rfl⟩
  | cons p ps => exact ⟨32, _, by simpa using prms_step (ps := p :: ps) (k := 0) rfl t, rfl⟩
theorem pre_hit (c : UInt8) (r : List UInt8) : Lib.hasPrefix (c :: r) [c] = true ∧ Lib.trimPrefix (c :: r) [c] = r := by
  have h1 : Lib.hasPrefix (c :: r) [c] = true := by simp [Lib.hasPrefix, List.isPrefixOf]
  exact ⟨h1, by unfold Lib.trimPrefix; rw [h1]; simp⟩
theorem pre_hit2 (c d : UInt8) (r : List UInt8) : Lib.hasPrefix (c :: d :: r) [c, d] = true ∧ Lib.trimPrefix (c :: d :: r) [c, d] = r := by
  have h1 : Lib.hasPrefix (c :: d :: r) [c, d] = true := by simp [Lib.hasPrefix, List.isPrefixOf]
  exact ⟨h1, by unfold Lib.trimPrefix; rw [h1]; simp⟩
theorem pre_miss (c d : UInt8) (r : List UInt8) (h : d ≠ c) : Lib.hasPrefix (d :: r) [c] = false ∧ Lib.trimPrefix (d :: r) [c] = d :: r := by
  have h1 : Lib.hasPrefix (d :: r) [c] = false := by simp [Lib.hasPrefix, List.isPrefixOf]; exact fun e => h e.symm
  exact ⟨h1, by unfold Lib.trimPrefix; rw [h1]; simp⟩
/-- element's first closure, where the sign is next, and where it isn't. -/
theorem sign_is (sep : ByteArray) (r r' : List UInt8) (f : Bool) (b : Nat) (w : World) (hp : Lib.hasPrefix r sep.data.toList = f ∧ Lib.trimPrefix r sep.data.toList = r') (hc : w.cell? ⟨b, 0, none⟩ = some (.string (bytes r))) (hf : w.frozen? ⟨b, 0, none⟩ = false) :
    Calls Tryz.prog 117 #[.string sep, .pointer (some ⟨b, 0, none⟩)] w fun e w' => e = .returned (.bool f) ∧ w' = w.setCell ⟨b, 0, none⟩ (.string (bytes r')) := by
  have h := sign_any sep r b w hc hf
  rw [hp.1, hp.2] at h
  exact h

/-- Parameters as cells. -/
def pcells (ps : List Prm) : List Value := ps.flatMap fun p => [.string p.1, .string p.2]
theorem pcells_push (ps : List Prm) (p : Prm) : pcells (ps ++ [p]) = pcells ps ++ [.string p.1, .string p.2] := by simp [pcells]
theorem pcells_at : ∀ (ps : List Prm) (j : Nat) (p : Prm), ps[j]? = some p → (pcells ps)[2 * j]? = some (.string p.1) ∧ (pcells ps)[2 * j + 1]? = some (.string p.2)
  | [], j, p, h => by simp at h
  | q :: ps, 0, p, h => by cases h; exact ⟨rfl, rfl⟩
  | q :: ps, j + 1, p, h => by
    have := pcells_at ps j p (by simpa using h)
    rw [show 2 * (j + 1) = 2 * j + 2 by omega, show 2 * j + 2 + 1 = (2 * j + 1) + 2 by omega]
    exact this
/-- What element's worlds hold of its variables: its answer, what is left, the list so far. -/
structure EAt (w W : World) (c0 lv : Value) (r : List UInt8) (ps : List Prm) : Prop where
  k0 : W.cell? ⟨w.heap.size, 0, none⟩ = some c0
  k1 : W.cell? ⟨w.heap.size, 1, none⟩ = some lv
  kr : W.cell? ⟨w.heap.size + 1, 0, none⟩ = some (.string (bytes r))
  z : w.heap.size + 1 < W.heap.size
  f0 : ∀ o, W.frozen? ⟨w.heap.size, o, none⟩ = false
  f1 : ∀ o, W.frozen? ⟨w.heap.size + 1, o, none⟩ = false
  b : Below w.heap.size w W
  own : W.ownsRow (w.heap.size + 2) 54 2 lv ps.length (pcells ps)
theorem kept_below {W W' : World} {base : Nat} {e : TypeId} {size n : Nat} {v : Value} {xs : List Value} (h : W.ownsRow base e size v n xs) (hb : Below W.heap.size W W') : W'.ownsRow base e size v n xs :=
  ⟨h.1, by
    rcases h.2 with hn | ⟨g, cap, cur, rfl, h1, hg, rest⟩
    · exact .inl hn
    · exact .inr ⟨g, cap, cur, rfl, h1, (hb.block g (Array.getElem?_eq_some_iff.1 hg).1).trans hg, rest⟩⟩
theorem kept_set {W : World} {base : Nat} {e : TypeId} {size n : Nat} {v : Value} {xs : List Value} (h : W.ownsRow base e size v n xs) (a : Addr) (u : Value) (hne : ∀ g, v.ownBlock = some g → g ≠ a.block) : (W.setCell a u).ownsRow base e size v n xs :=
  ⟨h.1, by
    rcases h.2 with hn | ⟨g, cap, cur, rfl, h1, hg, rest⟩
    · exact .inl hn
    · exact .inr ⟨g, cap, cur, rfl, h1, (Below.heap_setCell W a u g (hne g rfl)).trans hg, rest⟩⟩
variable {w W : World} {c0 lv : Value} {r : List UInt8} {ps : List Prm}
theorem EAt.below {W' : World} (h : EAt w W c0 lv r ps) (hb : Below W.heap.size W W') : EAt w W' c0 lv r ps := by
  have hz := h.z
  have hc : ∀ b o, b < W.heap.size → W'.cell? ⟨b, o, none⟩ = W.cell? ⟨b, o, none⟩ := (bcell hb).1
  have hf : ∀ b o, b < W.heap.size → W'.frozen? ⟨b, o, none⟩ = W.frozen? ⟨b, o, none⟩ := (bcell hb).2
  exact ⟨(hc _ _ (by omega)).trans h.k0, (hc _ _ (by omega)).trans h.k1, (hc _ _ (by omega)).trans h.kr, Nat.lt_of_lt_of_le hz hb.size, fun o => (hf _ _ (by omega)).trans (h.f0 o), fun o => (hf _ _ (by omega)).trans (h.f1 o),
    h.b.trans (hb.mono h.b.size), kept_below h.own hb⟩
theorem EAt.set0 (h : EAt w W c0 lv r ps) (v : Value) : EAt w (W.setCell ⟨w.heap.size, 0, none⟩ v) v lv r ps where
  k0 := by simp [go_sem, h.k0]
  k1 := by simp [go_sem, h.k1]
  kr := by simp [go_sem, h.kr]
  z := by have := h.z; simpa using this
  f0 := fun o => by have := h.f0 o; simpa [go_sem] using this
  f1 := fun o => by have := h.f1 o; simpa [go_sem] using this
  b := h.b.setCell (p := ⟨w.heap.size, 0, none⟩) (Nat.le_refl _) _
  own := kept_set h.own _ _ fun g hg => by have := (h.own.lt g hg).1; simp; omega
theorem EAt.set1 (h : EAt w W c0 lv r ps) : EAt w (W.setCell ⟨w.heap.size, 1, none⟩ lv) c0 lv r ps where
  k0 := by simp [go_sem, h.k0]
  k1 := by simp [go_sem, h.k1]
  kr := by simp [go_sem, h.kr]
  z := by have := h.z; simpa using this
  f0 := fun o => by have := h.f0 o; simpa [go_sem] using this
  f1 := fun o => by have := h.f1 o; simpa [go_sem] using this
  b := h.b.setCell (p := ⟨w.heap.size, 1, none⟩) (Nat.le_refl _) _
  own := kept_set h.own _ _ fun g hg => by have := (h.own.lt g hg).1; simp; omega
theorem EAt.setr (h : EAt w W c0 lv r ps) (r' : List UInt8) : EAt w (W.setCell ⟨w.heap.size + 1, 0, none⟩ (.string (bytes r'))) c0 lv r' ps where
  k0 := by simp [go_sem, h.k0]
  k1 := by simp [go_sem, h.k1]
  kr := by simp [go_sem, h.kr]
  z := by have := h.z; simpa using this
  f0 := fun o => by have := h.f0 o; simpa [go_sem] using this
  f1 := fun o => by have := h.f1 o; simpa [go_sem] using this
  b := h.b.setCell (p := ⟨w.heap.size + 1, 0, none⟩) (by simp) _
  own := kept_set h.own _ _ fun g hg => by have := (h.own.lt g hg).1; simp; omega
theorem EAt.other (h : EAt w W c0 lv r ps) {b o : Nat} (hb : w.heap.size + 2 ≤ b) (hne : ∀ g, lv.ownBlock = some g → g < b) (v : Value) : EAt w (W.setCell ⟨b, o, none⟩ v) c0 lv r ps where
  k0 := by rw [World.cell?_of_block (Below.heap_setCell W _ v _ (by simp; omega))]; exact h.k0
  k1 := by rw [World.cell?_of_block (Below.heap_setCell W _ v _ (by simp; omega))]; exact h.k1
  kr := by rw [World.cell?_of_block (Below.heap_setCell W _ v _ (by simp; omega))]; exact h.kr
  z := by have := h.z; simpa using this
  f0 := fun o' => by rw [World.frozen?_of_block (Below.heap_setCell W _ v _ (by simp; omega))]; exact h.f0 o'
  f1 := fun o' => by rw [World.frozen?_of_block (Below.heap_setCell W _ v _ (by simp; omega))]; exact h.f1 o'
  b := h.b.setCell (p := ⟨b, o, none⟩) (by simp; omega) _
  own := kept_set h.own _ _ fun g hg => by have := hne g hg; simp; omega
theorem EAt.push {w' : World} {v' : Value} {p : Prm} (h : EAt w W c0 lv r ps) (hg : W.grownBy w' lv.ownBlock) (hown : w'.ownsRow (w.heap.size + 2) 54 2 v' (ps.length + 1) (pcells ps ++ [.string p.1, .string p.2])) :
    EAt w (w'.setCell ⟨w.heap.size, 1, none⟩ v') c0 v' r (ps ++ [p]) := by
  have hz := h.z
  have hrow : ∀ k, lv.ownBlock = some k → w.heap.size + 2 ≤ k := fun k hk => (h.own.lt k hk).1
  have hne : ∀ b, b < w.heap.size + 2 → some b ≠ lv.ownBlock := fun b hb he => by have := hrow b he.symm; omega
  have hc : ∀ b o, b < w.heap.size + 2 → w'.cell? ⟨b, o, none⟩ = W.cell? ⟨b, o, none⟩ := fun b o hb => World.cell?_of_block (hg.block b (by omega) (hne b hb))
  have hf : ∀ b o, b < w.heap.size + 2 → w'.frozen? ⟨b, o, none⟩ = W.frozen? ⟨b, o, none⟩ := fun b o hb => World.frozen?_of_block (hg.block b (by omega) (hne b hb))
  have e0 := (hc w.heap.size 0 (by omega)).trans h.k0
  have e1 := (hc w.heap.size 1 (by omega)).trans h.k1
  have er := (hc (w.heap.size + 1) 0 (by omega)).trans h.kr
  refine ⟨by simp [go_sem, e0], by simp [go_sem, e1], by simp [go_sem, er], by have := hg.size; simp; omega, fun o => ?_, fun o => ?_, ?_, ?_⟩
  · have := (hf w.heap.size o (by omega)).trans (h.f0 o); simpa [go_sem] using this
  · have := (hf (w.heap.size + 1) o (by omega)).trans (h.f1 o); simpa [go_sem] using this
  · exact (h.b.grown hg h.b.size fun k hk => by have := hrow k hk; omega).setCell (p := ⟨w.heap.size, 1, none⟩) (Nat.le_refl _) _
  · rw [pcells_push, List.length_append]
    exact kept_set hown _ _ fun g hg' => by have := (hown.lt g hg').1; simp; omega
theorem EAt.grown {w' : World} (h : EAt w W c0 lv r ps) (hg : W.grownBy w' lv.ownBlock) : (∀ o, w'.frozen? ⟨w.heap.size, o, none⟩ = false) ∧ w'.cell? ⟨w.heap.size, 1, none⟩ = some lv := by
  have hz := h.z
  have hne : some w.heap.size ≠ lv.ownBlock := fun he => by have := (h.own.lt _ he.symm).1; omega
  exact ⟨fun o => (World.frozen?_of_block (a := ⟨w.heap.size, o, none⟩) (hg.block w.heap.size (by omega) hne)).trans (h.f0 o), (World.cell?_of_block (a := ⟨w.heap.size, 1, none⟩) (hg.block w.heap.size (by omega) hne)).trans h.k1⟩
/-- The list's value, and what it holds. -/
theorem EAt.prms (h : EAt w W c0 lv r ps) : ∃ la lc, lv = .slice la ps.length lc ∧ ∀ j p, ps[j]? = some p → ∃ b, la = some ⟨b, 0, none⟩ ∧ w.heap.size + 2 ≤ b ∧ b < W.heap.size ∧ W.cell? ⟨b, 2 * j, none⟩ = some (.string p.1) ∧ W.cell? ⟨b, 2 * j + 1, none⟩ = some (.string p.2) := by
  have hcells := h.own
  rcases h.own.2 with ⟨hv, hn⟩ | ⟨g, cap, cur, hv, hb, hg, hcap, hmax, hsz, htake⟩
  · rw [hv, hn]
    exact ⟨none, 0, rfl, fun j p hp => by rw [List.eq_nil_of_length_eq_zero hn] at hp; simp at hp⟩
  · refine ⟨some ⟨g, 0, none⟩, cap, hv, fun j p hp => ⟨g, rfl, hb, (Array.getElem?_eq_some_iff.1 hg).1, ?_, ?_⟩⟩
    · have hj := (List.getElem?_eq_some_iff.1 hp).1
      rw [hv] at hcells
      rw [hcells.cellAt _ (by omega)]
      exact (pcells_at ps j p hp).1
    · have hj := (List.getElem?_eq_some_iff.1 hp).1
      rw [hv] at hcells
      rw [hcells.cellAt _ (by omega)]
      exact (pcells_at ps j p hp).2
end Go.Proofs.YtnaijahhogndjaaGreatDoor
