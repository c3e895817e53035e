/- The texts RefAt, RefP, one behind the other. -/
import Derived.Test.YtmmghppjhmdikaaGreatDoorAF33
import Derived.Test.YtmmghppjhmdikaaGreatDoorAF35
import Derived.Test.YtmmghppjhmdikaaGreatDoorAF20
import Derived.Deep.DeepCutAuto
import Derived.Deep.CutBlock
import Derived.Test.YtmmghppjhmdikaaGreatDoorAF4
import Derived.Test.YtmmghppjhmdikaaGreatDoorAF11
import Derived.Test.YtmmghppjhmdikaaGreatDoorAF24
import Derived.Test.YtmmghppjhmdikaaGreatDoorAF25
/- What the worlds of the document's own Parse hold of its variables. -/
namespace Go.Proofs.YtmmghppjhmdikaaGreatDoor
open Go.ChangeShapes Go.WideShapes Go.ChangeAt Go.RowKit

/-- The result's block, and the event's block b. -/
structure GAt (w W : World) (b : Nat) (c0 c1 c2 c3 c4 c5 c6 c7 c8 c9 : Value) : Prop where
  k0 : W.cell? ⟨b, 0, none⟩ = some c0
  k1 : W.cell? ⟨b, 1, none⟩ = some c1
  k2 : W.cell? ⟨b, 2, none⟩ = some c2
  k3 : W.cell? ⟨b, 3, none⟩ = some c3
  k4 : W.cell? ⟨b, 4, none⟩ = some c4
  k5 : W.cell? ⟨b, 5, none⟩ = some c5
  k6 : W.cell? ⟨b, 6, none⟩ = some c6
  k7 : W.cell? ⟨b, 7, none⟩ = some c7
  k8 : W.cell? ⟨b, 8, none⟩ = some c8
  k9 : W.cell? ⟨b, 9, none⟩ = some c9
  e : ∀ i : Nat, i < 10 → ∃ v, W.cell? ⟨w.heap.size, i, none⟩ = some v
  f0 : ∀ o, W.frozen? ⟨w.heap.size, o, none⟩ = false
  f1 : ∀ o, W.frozen? ⟨b, o, none⟩ = false
  lt : w.heap.size < b
  z : b < W.heap.size
  b : Below w.heap.size w W
variable {w W : World} {b : Nat} {c0 c1 c2 c3 c4 c5 c6 c7 c8 c9 : Value}
theorem GAt.same {W' : World} (h : GAt w W b c0 c1 c2 c3 c4 c5 c6 c7 c8 c9) (hc : ∀ k o, k < b + 1 → W'.cell? ⟨k, o, none⟩ = W.cell? ⟨k, o, none⟩) (hf : ∀ k o, k < b + 1 → W'.frozen? ⟨k, o, none⟩ = W.frozen? ⟨k, o, none⟩) (hz : W.heap.size ≤ W'.heap.size) (hb : Below w.heap.size w W') : GAt w W' b c0 c1 c2 c3 c4 c5 c6 c7 c8 c9 := by
  have hl := h.lt
  exact ⟨(hc _ _ (by omega)).trans h.k0, (hc _ _ (by omega)).trans h.k1, (hc _ _ (by omega)).trans h.k2, (hc _ _ (by omega)).trans h.k3, (hc _ _ (by omega)).trans h.k4, (hc _ _ (by omega)).trans h.k5, (hc _ _ (by omega)).trans h.k6, (hc _ _ (by omega)).trans h.k7, (hc _ _ (by omega)).trans h.k8, (hc _ _ (by omega)).trans h.k9, fun i hi => by
      obtain ⟨v, hv⟩ := h.e i hi
      exact ⟨v, (hc _ _ (by omega)).trans hv⟩, fun o => (hf _ _ (by omega)).trans (h.f0 o), fun o => (hf _ _ (by omega)).trans (h.f1 o), hl, Nat.lt_of_lt_of_le h.z hz, hb⟩
theorem GAt.below {W' : World} (h : GAt w W b c0 c1 c2 c3 c4 c5 c6 c7 c8 c9) (hb : Below W.heap.size W W') : GAt w W' b c0 c1 c2 c3 c4 c5 c6 c7 c8 c9 := by
  have hz := h.z
  exact h.same (fun k o hk => (bcell hb).1 _ _ (by omega)) (fun k o hk => (bcell hb).2 _ _ (by omega)) hb.size (h.b.trans (hb.mono h.b.size))
theorem GAt.grown {W' : World} {ob : Option Nat} (h : GAt w W b c0 c1 c2 c3 c4 c5 c6 c7 c8 c9) (hg : W.grownBy W' ob) (hb : ∀ k, ob = some k → b + 1 ≤ k) : GAt w W' b c0 c1 c2 c3 c4 c5 c6 c7 c8 c9 := by
  have hz := h.z
  have hne : ∀ k, k < b + 1 → some k ≠ ob := fun k hk he => by have := hb k he.symm; omega
  exact h.same (fun k o hk => World.cell?_of_block (hg.block k (by omega) (hne k hk))) (fun k o hk => World.frozen?_of_block (hg.block k (by omega) (hne k hk))) hg.size (h.b.grown hg h.b.size fun k hk => by have := hb k hk; have := h.lt; omega)
theorem GAt.set2 (h : GAt w W b c0 c1 c2 c3 c4 c5 c6 c7 c8 c9) (v : Value) : GAt w (W.setCell ⟨b, 2, none⟩ v) b c0 c1 v c3 c4 c5 c6 c7 c8 c9 where
  k0 := by simp [go_sem, h.k0]
  k1 := by simp [go_sem, h.k1]
  k2 := by simp [go_sem, h.k2]
  k3 := by simp [go_sem, h.k3]
  k4 := by simp [go_sem, h.k4]
  k5 := by simp [go_sem, h.k5]
  k6 := by simp [go_sem, h.k6]
  k7 := by simp [go_sem, h.k7]
  k8 := by simp [go_sem, h.k8]
  k9 := by simp [go_sem, h.k9]
  e := fun i hi => by
    obtain ⟨v, hv⟩ := h.e i hi
    have hne : w.heap.size ≠ b := by have := h.lt; omega
    exact ⟨v, (World.cell?_setCell_other _ _ _ _ (by intro h; simp only [Addr.mk.injEq] at h; omega)).trans hv⟩
  f0 := fun o => by have := h.f0 o; simpa [go_sem] using this
  f1 := fun o => by have := h.f1 o; simpa [go_sem] using this
  lt := h.lt
  z := by have := h.z; simpa using this
  b := h.b.setCell (p := ⟨b, 2, none⟩) (by have := h.lt; simp; omega) _
theorem GAt.set3 (h : GAt w W b c0 c1 c2 c3 c4 c5 c6 c7 c8 c9) (v : Value) : GAt w (W.setCell ⟨b, 3, none⟩ v) b c0 c1 c2 v c4 c5 c6 c7 c8 c9 where
  k0 := by simp [go_sem, h.k0]
  k1 := by simp [go_sem, h.k1]
  k2 := by simp [go_sem, h.k2]
  k3 := by simp [go_sem, h.k3]
  k4 := by simp [go_sem, h.k4]
  k5 := by simp [go_sem, h.k5]
  k6 := by simp [go_sem, h.k6]
  k7 := by simp [go_sem, h.k7]
  k8 := by simp [go_sem, h.k8]
  k9 := by simp [go_sem, h.k9]
  e := fun i hi => by
    obtain ⟨v, hv⟩ := h.e i hi
    have hne : w.heap.size ≠ b := by have := h.lt; omega
    exact ⟨v, (World.cell?_setCell_other _ _ _ _ (by intro h; simp only [Addr.mk.injEq] at h; omega)).trans hv⟩
  f0 := fun o => by have := h.f0 o; simpa [go_sem] using this
  f1 := fun o => by have := h.f1 o; simpa [go_sem] using this
  lt := h.lt
  z := by have := h.z; simpa using this
  b := h.b.setCell (p := ⟨b, 3, none⟩) (by have := h.lt; simp; omega) _
theorem GAt.set4 (h : GAt w W b c0 c1 c2 c3 c4 c5 c6 c7 c8 c9) (v : Value) : GAt w (W.setCell ⟨b, 4, none⟩ v) b c0 c1 c2 c3 v c5 c6 c7 c8 c9 where
  k0 := by simp [go_sem, h.k0]
  k1 := by simp [go_sem, h.k1]
  k2 := by simp [go_sem, h.k2]
  k3 := by simp [go_sem, h.k3]
  k4 := by simp [go_sem, h.k4]
  k5 := by simp [go_sem, h.k5]
  k6 := by simp [go_sem, h.k6]
  k7 := by simp [go_sem, h.k7]
  k8 := by simp [go_sem, h.k8]
  k9 := by simp [go_sem, h.k9]
  e := fun i hi => by
    obtain ⟨v, hv⟩ := h.e i hi
    have hne : w.heap.size ≠ b := by have := h.lt; omega
    exact ⟨v, (World.cell?_setCell_other _ _ _ _ (by intro h; simp only [Addr.mk.injEq] at h; omega)).trans hv⟩
  f0 := fun o => by have := h.f0 o; simpa [go_sem] using this
  f1 := fun o => by have := h.f1 o; simpa [go_sem] using this
  lt := h.lt
  z := by have := h.z; simpa using this
  b := h.b.setCell (p := ⟨b, 4, none⟩) (by have := h.lt; simp; omega) _
theorem GAt.set5 (h : GAt w W b c0 c1 c2 c3 c4 c5 c6 c7 c8 c9) (v : Value) : GAt w (W.setCell ⟨b, 5, none⟩ v) b c0 c1 c2 c3 c4 v c6 c7 c8 c9 where
  k0 := by simp [go_sem, h.k0]
  k1 := by simp [go_sem, h.k1]
  k2 := by simp [go_sem, h.k2]
  k3 := by simp [go_sem, h.k3]
  k4 := by simp [go_sem, h.k4]
  k5 := by simp [go_sem, h.k5]
  k6 := by simp [go_sem, h.k6]
  k7 := by simp [go_sem, h.k7]
  k8 := by simp [go_sem, h.k8]
  k9 := by simp [go_sem, h.k9]
  e := fun i hi => by
    obtain ⟨v, hv⟩ := h.e i hi
    have hne : w.heap.size ≠ b := by have := h.lt; omega
    exact ⟨v, (World.cell?_setCell_other _ _ _ _ (by intro h; simp only [Addr.mk.injEq] at h; omega)).trans hv⟩
  f0 := fun o => by have := h.f0 o; simpa [go_sem] using this
  f1 := fun o => by have := h.f1 o; simpa [go_sem] using this
  lt := h.lt
  z := by have := h.z; simpa using this
  b := h.b.setCell (p := ⟨b, 5, none⟩) (by have := h.lt; simp; omega) _
theorem GAt.set6 (h : GAt w W b c0 c1 c2 c3 c4 c5 c6 c7 c8 c9) (v : Value) : GAt w (W.setCell ⟨b, 6, none⟩ v) b c0 c1 c2 c3 c4 c5 v c7 c8 c9 where
  k0 := by simp [go_sem, h.k0]
  k1 := by simp [go_sem, h.k1]
  k2 := by simp [go_sem, h.k2]
  k3 := by simp [go_sem, h.k3]
  k4 := by simp [go_sem, h.k4]
  k5 := by simp [go_sem, h.k5]
  k6 := by simp [go_sem, h.k6]
  k7 := by simp [go_sem, h.k7]
  k8 := by simp [go_sem, h.k8]
  k9 := by simp [go_sem, h.k9]
  e := fun i hi => by
    obtain ⟨v, hv⟩ := h.e i hi
    have hne : w.heap.size ≠ b := by have := h.lt; omega
    exact ⟨v, (World.cell?_setCell_other _ _ _ _ (by intro h; simp only [Addr.mk.injEq] at h; omega)).trans hv⟩
  f0 := fun o => by have := h.f0 o; simpa [go_sem] using this
  f1 := fun o => by have := h.f1 o; simpa [go_sem] using this
  lt := h.lt
  z := by have := h.z; simpa using this
  b := h.b.setCell (p := ⟨b, 6, none⟩) (by have := h.lt; simp; omega) _
theorem GAt.set7 (h : GAt w W b c0 c1 c2 c3 c4 c5 c6 c7 c8 c9) (v : Value) : GAt w (W.setCell ⟨b, 7, none⟩ v) b c0 c1 c2 c3 c4 c5 c6 v c8 c9 where
  k0 := by simp [go_sem, h.k0]
  k1 := by simp [go_sem, h.k1]
  k2 := by simp [go_sem, h.k2]
  k3 := by simp [go_sem, h.k3]
  k4 := by simp [go_sem, h.k4]
  k5 := by simp [go_sem, h.k5]
  k6 := by simp [go_sem, h.k6]
  k7 := by simp [go_sem, h.k7]
  k8 := by simp [go_sem, h.k8]
  k9 := by simp [go_sem, h.k9]
  e := fun i hi => by
    obtain ⟨v, hv⟩ := h.e i hi
    have hne : w.heap.size ≠ b := by have := h.lt; omega
    exact ⟨v, (World.cell?_setCell_other _ _ _ _ (by intro h; simp only [Addr.mk.injEq] at h; omega)).trans hv⟩
  f0 := fun o => by have := h.f0 o; simpa [go_sem] using this
  f1 := fun o => by have := h.f1 o; simpa [go_sem] using this
  lt := h.lt
  z := by have := h.z; simpa using this
  b := h.b.setCell (p := ⟨b, 7, none⟩) (by have := h.lt; simp; omega) _
theorem GAt.set8 (h : GAt w W b c0 c1 c2 c3 c4 c5 c6 c7 c8 c9) (v : Value) : GAt w (W.setCell ⟨b, 8, none⟩ v) b c0 c1 c2 c3 c4 c5 c6 c7 v c9 where
  k0 := by simp [go_sem, h.k0]
  k1 := by simp [go_sem, h.k1]
  k2 := by simp [go_sem, h.k2]
  k3 := by simp [go_sem, h.k3]
  k4 := by simp [go_sem, h.k4]
  k5 := by simp [go_sem, h.k5]
  k6 := by simp [go_sem, h.k6]
  k7 := by simp [go_sem, h.k7]
  k8 := by simp [go_sem, h.k8]
  k9 := by simp [go_sem, h.k9]
  e := fun i hi => by
    obtain ⟨v, hv⟩ := h.e i hi
    have hne : w.heap.size ≠ b := by have := h.lt; omega
    exact ⟨v, (World.cell?_setCell_other _ _ _ _ (by intro h; simp only [Addr.mk.injEq] at h; omega)).trans hv⟩
  f0 := fun o => by have := h.f0 o; simpa [go_sem] using this
  f1 := fun o => by have := h.f1 o; simpa [go_sem] using this
  lt := h.lt
  z := by have := h.z; simpa using this
  b := h.b.setCell (p := ⟨b, 8, none⟩) (by have := h.lt; simp; omega) _
theorem GAt.set9 (h : GAt w W b c0 c1 c2 c3 c4 c5 c6 c7 c8 c9) (v : Value) : GAt w (W.setCell ⟨b, 9, none⟩ v) b c0 c1 c2 c3 c4 c5 c6 c7 c8 v where
  k0 := by simp [go_sem, h.k0]
  k1 := by simp [go_sem, h.k1]
  k2 := by simp [go_sem, h.k2]
  k3 := by simp [go_sem, h.k3]
  k4 := by simp [go_sem, h.k4]
  k5 := by simp [go_sem, h.k5]
  k6 := by simp [go_sem, h.k6]
  k7 := by simp [go_sem, h.k7]
  k8 := by simp [go_sem, h.k8]
  k9 := by simp [go_sem, h.k9]
  e := fun i hi => by
    obtain ⟨v, hv⟩ := h.e i hi
    have hne : w.heap.size ≠ b := by have := h.lt; omega
    exact ⟨v, (World.cell?_setCell_other _ _ _ _ (by intro h; simp only [Addr.mk.injEq] at h; omega)).trans hv⟩
  f0 := fun o => by have := h.f0 o; simpa [go_sem] using this
  f1 := fun o => by have := h.f1 o; simpa [go_sem] using this
  lt := h.lt
  z := by have := h.z; simpa using this
  b := h.b.setCell (p := ⟨b, 9, none⟩) (by have := h.lt; simp; omega) _

/-! ### the row of elements, and their own rows -/
structure RowsAt (m : Nat) (W : World) (lv : Value) (es : List Elm) (rows : List Row) : Prop where
  len : rows.length = es.length
  own : W.ownsRow m 58 2 lv es.length (ecells rows)
  row : ∀ (j : Nat) (e : Elm), es[j]? = some e → ∃ v, rows[j]? = some (e.1, v) ∧ W.ownsRow m 74 2 v e.2.length (pcells e.2)
variable {n : Nat} {lv : Value} {es : List Elm} {rows : List Row}
theorem RowsAt.start (n : Nat) (W : World) : RowsAt n W (.slice none 0 0) [] [] := ⟨rfl, World.ownsRow_nil _ _ _ _, fun j e h => by simp at h⟩
theorem RowsAt.below {W' : World} (h : RowsAt n W lv es rows) (hb : Below W.heap.size W W') : RowsAt n W' lv es rows :=
  ⟨h.len, kept_below h.own hb, fun j e he => by
    obtain ⟨v, h1, h2⟩ := h.row j e he
    exact ⟨v, h1, kept_below h2 hb⟩⟩
theorem RowsAt.set (h : RowsAt n W lv es rows) (a : Addr) (u : Value) (ha : a.block < n) : RowsAt n (W.setCell a u) lv es rows :=
  ⟨h.len, kept_set h.own _ _ (fun g hg => by have := (h.own.lt g hg).1; omega), fun j e he => by
    obtain ⟨v, h1, h2⟩ := h.row j e he
    exact ⟨v, h1, kept_set h2 _ _ (fun g hg => by have := (h2.lt g hg).1; omega)⟩⟩
theorem RowsAt.push {W' : World} {v' v : Value} {e : Elm} (h : RowsAt n W lv es rows) (hv : W.ownsRow n 74 2 v e.2.length (pcells e.2)) (hg : W.grownBy W' lv.ownBlock) (hown : W'.ownsRow n 58 2 v' (es.length + 1) (ecells rows ++ [.string e.1, v])) :
    RowsAt n W' v' (es ++ [e]) (rows ++ [(e.1, v)]) where
  len := by rw [List.length_append, List.length_append, h.len]; rfl
  own := by rw [ecells_push, List.length_append]; exact hown
  row := fun j x hx => by
    rcases Nat.lt_or_ge j es.length with hl | hl
    · rw [List.getElem?_append_left hl] at hx
      obtain ⟨u, h1, h2⟩ := h.row j x hx
      exact ⟨u, by rw [List.getElem?_append_left (by rw [h.len]; exact hl)]; exact h1, h2.kept hg (row_ne (by decide) h2 h.own)⟩
    · rw [List.getElem?_append_right hl] at hx
      have hj : j - es.length = 0 := by
        rcases Nat.eq_zero_or_pos (j - es.length) with h0 | h0
        · exact h0
        · rw [List.getElem?_eq_none (by simp; omega)] at hx; cases hx
      rw [hj] at hx
      cases hx
      exact ⟨v, by rw [List.getElem?_append_right (by rw [h.len]; exact hl), h.len, hj]; rfl, hv.kept hg (row_ne (by decide) hv h.own)⟩
/-- The list lies there. -/
theorem RowsAt.elms (h : RowsAt n W lv es rows) : ElmsAt W lv es := by
  have hc := h.own
  rcases h.own.2 with ⟨hv, hn⟩ | ⟨g, cap, cur, hv, hb, hg, hcap, hmax, hsz, htake⟩
  · have he : es = [] := List.eq_nil_of_length_eq_zero hn
    subst he
    rw [hv]
    exact ElmsAt.nil W none 0
  · rw [hv] at hc ⊢
    have hlt : g < W.heap.size := (Array.getElem?_eq_some_iff.1 hg).1
    refine ⟨_, _, rfl, fun _ => ⟨g, 0, rfl, by omega, fun j e he => ?_⟩⟩
    obtain ⟨v, h1, h2⟩ := h.row j e he
    have hj := (List.getElem?_eq_some_iff.1 he).1
    have hat := ecells_at rows j _ h1
    refine ⟨v, ?_, ?_, ?_⟩
    · rw [Nat.zero_add, hc.cellAt _ (by omega)]; exact hat.1
    · rw [Nat.zero_add, hc.cellAt _ (by omega)]; exact hat.2
    · have h2' := h2
      rcases h2.2 with ⟨hv2, hn2⟩ | ⟨g2, cap2, cur2, hv2, hb2, hg2, _⟩
      · have he2 : e.2 = [] := List.eq_nil_of_length_eq_zero hn2
        rw [hv2, he2]
        exact PrmsAt.nil W none 0
      · rw [hv2] at h2' ⊢
        have hlt2 : g2 < W.heap.size := (Array.getElem?_eq_some_iff.1 hg2).1
        refine ⟨_, _, rfl, fun _ => ⟨g2, 0, rfl, by omega, fun i p hp => ?_⟩⟩
        have hi := (List.getElem?_eq_some_iff.1 hp).1
        have hpt := pcells_at e.2 i p hp
        rw [Nat.zero_add, h2'.cellAt _ (by omega), h2'.cellAt _ (by omega)]
        exact hpt
theorem RowsAt.shape (h : RowsAt n W lv es rows) : ∃ la lc, lv = .slice la es.length lc := by
  rcases h.own.2 with ⟨hv, hn⟩ | ⟨g, cap, cur, hv, _⟩
  · rw [hv, hn]; exact ⟨_, _, rfl⟩
  · exact ⟨_, _, hv⟩

/-! ### a row of texts -/
theorem row_shape {W : World} {base : Nat} {e : TypeId} {size n : Nat} {v : Value} {xs : List Value} (h : W.ownsRow base e size v n xs) : ∃ a c, v = .slice a n c := by
  rcases h.2 with ⟨hv, hn⟩ | ⟨g, cap, cur, hv, _⟩
  · rw [hv, hn]; exact ⟨_, _, rfl⟩
  · exact ⟨_, _, hv⟩
def tcells (ws : List (List UInt8)) : List Value := ws.map fun x => .string (bytes x)
theorem tcells_push (ws : List (List UInt8)) (x : List UInt8) : tcells (ws ++ [x]) = tcells ws ++ [.string (bytes x)] := by simp [tcells]
theorem tcells_len (ws : List (List UInt8)) : (tcells ws).length = ws.length := by simp [tcells]
end Go.Proofs.YtmmghppjhmdikaaGreatDoor
/- What the walks of the document's own Parse share. Conditions: sizes. -/
namespace Go.Proofs.YtmmghppjhmdikaaGreatDoor
open Go.ChangeShapes Go.WideShapes Go.ChangeAt Go.RowKit
open Cal (nanosI ParsedAs numOf isDig)

abbrev Z24 : Obj := .cells #[.int .i64 0, .int .i64 0, .bool false, .int .i64 0, .string ⟨#[]⟩, .string ⟨#[]⟩, .string ⟨#[]⟩, .string ⟨#[]⟩, .slice none 0 0, .string ⟨#[]⟩] 29
theorem bad_no {l : List UInt8} {w w' : World} (h : NoD l) (hb : Below w.heap.size w w') : RefParseAns l w (.returned (.tuple #[.agg #[.int .i64 0, .int .i64 0, .bool false, .int .i64 0, .string ⟨#[]⟩, .string ⟨#[]⟩, .string ⟨#[]⟩, .string ⟨#[]⟩, .slice none 0 0, .string ⟨#[]⟩], .int .i64 3])) w' := .inl ⟨⟨rfl, hb⟩, h⟩
/-- What Parse's worlds hold of its result. -/
def RAt (w W : World) : Prop := (∀ i : Nat, i < 10 → ∃ v, W.cell? ⟨w.heap.size, i, none⟩ = some v) ∧ (∀ o, W.frozen? ⟨w.heap.size, o, none⟩ = false) ∧ Below w.heap.size w W ∧ w.heap.size < W.heap.size
theorem RAt.below {w W W' : World} (h : RAt w W) (hb : Below W.heap.size W W') : RAt w W' := by
  obtain ⟨h1, h2, h3, h4⟩ := h
  refine ⟨fun i hi => ?_, fun o => ((bcell hb).2 _ _ h4).trans (h2 o), h3.trans (hb.mono h3.size), Nat.lt_of_lt_of_le h4 hb.size⟩
  obtain ⟨v, hv⟩ := h1 i hi
  exact ⟨v, ((bcell hb).1 _ _ h4).trans hv⟩
theorem rat_new (w : World) : RAt w ((w.alloc Z24).drew) := ⟨fun i hi => by
  match i, hi with
  | 0, _ => exact ⟨_, by simp [go_sem]; rfl⟩
  | 1, _ => exact ⟨_, by simp [go_sem]; rfl⟩
  | 2, _ => exact ⟨_, by simp [go_sem]; rfl⟩
  | 3, _ => exact ⟨_, by simp [go_sem]; rfl⟩
  | 4, _ => exact ⟨_, by simp [go_sem]; rfl⟩
  | 5, _ => exact ⟨_, by simp [go_sem]; rfl⟩
  | 6, _ => exact ⟨_, by simp [go_sem]; rfl⟩
  | 7, _ => exact ⟨_, by simp [go_sem]; rfl⟩
  | 8, _ => exact ⟨_, by simp [go_sem]; rfl⟩
  | 9, _ => exact ⟨_, by simp [go_sem]; rfl⟩
  | n + 10, h => omega, fun o => by simp [go_sem], ((Below.refl _ _).alloc (Nat.le_refl _) _).drew, by simp⟩
theorem begins_hid {s : ByteArray} {L : List UInt8} (hL : s.data.toList = L) (hs : s.size ≤ 16777216) (t : ByteArray) (h1 : 1 ≤ t.size) (ht : t.size ≤ 1024) (p : Nat) (hp : p ≤ 4611686018427387904) (b : Bool) (hb : Lib.hasPrefix (L.drop p) t.data.toList = b) :
    Hid (∀ W, Calls Tryz.prog 10 #[.string s, .int .i64 p, .string t] W fun e w' => e = .returned (.bool b) ∧ w' = W) := Lib.hid fun W => by
  have := begins_any s t p W (by omega) h1 ht hp
  rw [hL, hb] at this
  exact this
end Go.Proofs.YtmmghppjhmdikaaGreatDoor
