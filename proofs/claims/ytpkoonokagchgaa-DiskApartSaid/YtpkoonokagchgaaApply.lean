/- What the document's own apply answers: the row with one write done. Conditions: the write is to a sector that there is, and no longer than it; at most 1000000 sectors, of at most 100000 bytes. -/
import Derived.Test.YtpkoonokagchgaaClone
namespace Go.Proofs.Ytpkoonokagchgaa
open Go.ChangeShapes Go.WideShapes Go.ChangeAt Go.RowKit

/-- A row of texts, for one who reads it. -/
structure RowT (W : World) (A : Option Addr) (c : Nat) (l : List ByteArray) : Prop where
  k : CellsAt W A (tcells l)
  nn : A = none → l.length = 0 ∧ c = 0
  le : l.length ≤ c
structure RowW (W : World) (A : Option Addr) (c : Nat) (l : List Wr) : Prop where
  k : CellsAt W A (wrcells l)
  nn : A = none → l.length = 0 ∧ c = 0
  le : l.length ≤ c

theorem RowT.below {W W' : World} {A : Option Addr} {c : Nat} {l : List ByteArray} (h : RowT W A c l) (hb : Below W.heap.size W W') : RowT W' A c l := ⟨h.k.below hb, h.nn, h.le⟩
theorem RowW.below {W W' : World} {A : Option Addr} {c : Nat} {l : List Wr} (h : RowW W A c l) (hb : Below W.heap.size W W') : RowW W' A c l := ⟨h.k.below hb, h.nn, h.le⟩
theorem rowT_own {W : World} {base : Nat} {A : Option Addr} {n c : Nat} {l : List ByteArray} (h : W.ownsRow base 9 1 (.slice A n c) n (tcells l)) (hn : n = l.length) : RowT W A c l := by
  subst hn
  exact ⟨(own_cells h).1, (own_cells h).2.1, (own_cells h).2.2⟩
theorem rowW_own {W : World} {base : Nat} {A : Option Addr} {n c : Nat} {l : List Wr} (h : W.ownsRow base 55 2 (.slice A n c) n (wrcells l)) (hn : n = l.length) : RowW W A c l := by
  subst hn
  exact ⟨(own_cells h).1, (own_cells h).2.1, (own_cells h).2.2⟩
theorem At.rowT {W : World} {d : Dk} {kA : Option Addr} {kc : Nat} {wA : Option Addr} {wc : Nat} (h : At W d kA kc wA wc) : RowT W kA kc d.ks := ⟨h.ks, h.kn, h.kl⟩
theorem At.rowW {W : World} {d : Dk} {kA : Option Addr} {kc : Nat} {wA : Option Addr} {wc : Nat} (h : At W d kA kc wA wc) : RowW W wA wc d.ws := ⟨h.ws, h.wn, h.wl⟩
theorem at_of {W : World} {d : Dk} {kA : Option Addr} {kc : Nat} {wA : Option Addr} {wc : Nat} (h : RowT W kA kc d.ks) (k : RowW W wA wc d.ws) : At W d kA kc wA wc := ⟨h.k, k.k, h.nn, k.nn, h.le, k.le⟩
theorem RowW.nil (W : World) : RowW W none 0 [] := ⟨CellsAt.nil _ _, fun _ => ⟨rfl, rfl⟩, Nat.le_refl _⟩
theorem RowT.nil (W : World) : RowT W none 0 [] := ⟨CellsAt.nil _ _, fun _ => ⟨rfl, rfl⟩, Nat.le_refl _⟩
theorem RowT.cell {W : World} {A : Option Addr} {c : Nat} {l : List ByteArray} (h : RowT W A c l) {j : Nat} (hj : j < l.length) :
    ∃ b off, A = some ⟨b, off, none⟩ ∧ b < W.heap.size ∧ ∀ j x, l[j]? = some x → W.cell? ⟨b, off + j, none⟩ = some (.string x) := by
  obtain ⟨b, off, h1, h2, h3⟩ := h.k (by rw [tcells_length]; omega)
  exact ⟨b, off, h1, h2, fun j x hx => h3 j _ (tcells_get hx)⟩
theorem RowW.cell {W : World} {A : Option Addr} {c : Nat} {l : List Wr} (h : RowW W A c l) {j : Nat} (hj : j < l.length) :
    ∃ b off, A = some ⟨b, off, none⟩ ∧ b < W.heap.size ∧ ∀ j x, l[j]? = some x → W.cell? ⟨b, off + j * 2, none⟩ = some (.int .i64 x.p) ∧ W.cell? ⟨b, off + j * 2 + 1, none⟩ = some (.string x.s) := by
  obtain ⟨b, off, h1, h2, h3⟩ := h.k (by rw [wrcells_length]; omega)
  exact ⟨b, off, h1, h2, fun j x hx => ⟨h3 _ _ (wr_at hx).1, h3 _ _ (wr_at hx).2⟩⟩

theorem tcells_set (l : List ByteArray) (i : Nat) (s : ByteArray) : (tcells l).set i (.string s) = tcells (l.set i s) := by simp [tcells, List.map_set]
theorem doW_at {l : List ByteArray} {i : Nat} {x : ByteArray} (h : l[i]? = some x) (s : ByteArray) : doW l ⟨(i : Int), s⟩ = l.set i (s ++ x.extract s.size x.size) := by
  unfold doW put
  simp [h]

set_option maxHeartbeats 2000000 in
set_option maxRecDepth 100000 in
theorem apply_any (A : Option Addr) (c : Nat) (l : List ByteArray) (i : Nat) (x s : ByteArray) (w : World) (hc : CellsAt w A (tcells l)) (hl : l.length ≤ 1000000) (hx : l[i]? = some x) (hs : s.size ≤ x.size) (hz : x.size ≤ 100000) :
    Calls Try.prog 45 #[.slice A l.length c, .int .i64 (i : Int), .string s] w fun e w' => ∃ A' c', e = .returned (.slice A' l.length c') ∧ w'.ownsRow w.heap.size 9 1 (.slice A' l.length c') l.length (tcells (doW l ⟨(i : Int), s⟩)) ∧ Below w.heap.size w w' := by
  obtain ⟨i0, hi, hi0, hi1, hi2⟩ := info9
  have HI := Lib.hid hi
  have HI0 := Lib.hid hi0
  have HI1 := Lib.hid hi1
  have HI2 := Lib.hid hi2
  clear hi hi0 hi1 hi2
  have hT := tcells_get hx
  obtain ⟨b, off, rfl, hb, h3⟩ := hc.get hT
  clear hc
  have HC := Lib.hid h3
  have HT := Lib.hid hT
  have HX := Lib.hid hx
  have hc0 := h3 i _ hT
  have hil : i < l.length := (List.getElem?_eq_some_iff.1 hx).1
  clear h3 hT hx
  have HB := Lib.hid hb
  clear hb
  have hsum : ¬ 9223372036854775807 < s.size + (x.extract s.size x.size).size := by rw [ByteArray.size_extract]; omega
  rw [doW_at HX.out]
  have HE := Lib.hid (tcells_set l i (s ++ x.extract s.size x.size))
  generalize hz : l.length = n at hl hil
  have HZ := Lib.hid hz
  clear hz
  go_enter Try.func45, Try.ntmps45
  go_wp2_with (
    at_builtin
    refine wpList_append_own _ rfl _ _ 22 rfl w.heap.size 9 i0 (.string ⟨#[]⟩) 1 16 Try.underlying22 HI.out HI0.out HI1.out HI2.out rfl (by decide) (.slice (some ⟨w.heap.size, 0, none⟩) 0 0) 0 [] rfl (World.ownsRow_made w #[] 0 (Nat.le_refl _) (by decide) rfl) ⟨b, off, none⟩ n c (tcells l) rfl (by rw [tcells_length, HZ.out]; omega) (fun j u hu => by rw [add_plain]; exact ((alloc_below w _).cell (p := ⟨b, off + j, none⟩) HB.out).trans (HC.out j u hu)) (tcells_one l) (by unfold maxLen; omega) (by omega) (by simp) ?_
    intro v w1 hown hgrow hiff
    clear hiff
    rw [Nat.zero_add, List.nil_append] at hown
    obtain ⟨g, c', rfl, hg, hgs⟩ := own_some hown (by omega)
    have B1 : Below w.heap.size w w1 := (alloc_below w _).grown hgrow (by simp) (fun g hg => by simp [Value.ownBlock] at hg; omega)
    have c1 : w1.cell? ⟨b, off + i, none⟩ = some (.string x) := (B1.cell (p := ⟨b, off + i, none⟩) HB.out).trans hc0
    have hf := hown.frozenAt i
    have hcl : w1.cell? ⟨g, i, none⟩ = some (.string x) := (hown.cellAt i (by omega)).trans HT.out
    have HS := Lib.hid (hown.stored i (.string (s ++ x.extract s.size x.size))).1
    have HBB := Lib.hid B1
    have HG := Lib.hid hg
    clear hown hgrow B1 hg hgs)
  go_ret
  exact ⟨_, _, rfl, by have := HS.out; rw [HE.out] at this; exact this, HBB.out.setCell (p := ⟨g, i, none⟩) HG.out _⟩
end Go.Proofs.Ytpkoonokagchgaa
