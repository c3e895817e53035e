/- What is read behind a write, as lists. No program, no memory. -/
import Derived.Test.YtpkoonokagchgaaRead
import Derived.Test.YtpkoonokagchgaaWrite
namespace Go.Proofs.Ytpkoonokagchgaa

theorem imageD_more (d : Dk) (p : Int) (s : ByteArray) : imageD (more d p s) = doW (imageD d) ⟨p, s⟩ := image_snoc d.ks d.ws ⟨p, s⟩

theorem writeE_zero {d : Dk} {p : Int} {s : ByteArray} (h : writeE d p s = 0) : d.off = false ∧ 0 ≤ p ∧ p < d.ks.length ∧ 1 ≤ s.size ∧ (s.size : Int) ≤ d.sz := by
  obtain ⟨h1, h2, h3⟩ := writeE_ok h
  obtain ⟨q0, q1⟩ := hasB_iff.1 h2
  have : 1 ≤ (s.size : Int) ∧ (s.size : Int) ≤ d.sz := by simpa [withinB] using h3
  exact ⟨h1, q0, q1, by omega, this.2⟩

theorem read_on {d : Dk} {o : Int} (h : d.off = false) (h2 : hasB d.ks.length o = true) : readT d o = (imageD d).getD o.toNat ByteArray.empty := by
  unfold readT
  rw [h, h2]
  rfl
theorem read_past {d : Dk} {o : Int} (h2 : hasB d.ks.length o = false) : readT d o = ByteArray.empty := by
  unfold readT
  rw [h2]
  cases d.off <;> rfl

theorem put_first {t s : ByteArray} : (put t s).extract 0 s.size = s := by
  unfold put
  apply ByteArray.ext
  simp

theorem doW_getD {l : List ByteArray} {w : Wr} (h0 : 0 ≤ w.p) (h1 : w.p < l.length) : (doW l w).getD w.p.toNat ByteArray.empty = put (l.getD w.p.toNat ByteArray.empty) w.s := by
  unfold doW
  rw [List.getD_eq_getElem?_getD, List.getElem?_set_self (by omega)]
  rfl
theorem doW_getD_ne {l : List ByteArray} {w : Wr} {j : Nat} (h : j ≠ w.p.toNat) : (doW l w).getD j ByteArray.empty = l.getD j ByteArray.empty := by
  unfold doW
  rw [List.getD_eq_getElem?_getD, List.getElem?_set_ne (Ne.symm h), ← List.getD_eq_getElem?_getD]

/-- What was written is read. -/
theorem read_new {d : Dk} (hd : Ok d) {p : Int} {s : ByteArray} (h : writeE d p s = 0) : ((readT (more d p s) p).size : Int) = d.sz ∧ s.size ≤ (readT (more d p s) p).size ∧ (readT (more d p s) p).extract 0 s.size = s := by
  obtain ⟨h1, h2, h3, h4, h5⟩ := writeE_zero h
  have hr : readT (more d p s) p = put ((imageD d).getD p.toNat ByteArray.empty) s := by
    rw [read_on (d := more d p s) rfl (hasB_iff.2 ⟨h2, h3⟩), imageD_more]
    exact doW_getD (w := ⟨p, s⟩) h2 (by rw [imageD_length]; exact h3)
  have hs : ((imageD d).getD p.toNat ByteArray.empty).size = d.sz.toNat := (imageD_sized hd).getD (by rw [imageD_length]; omega)
  have hz := hd.s1
  have hle : s.size ≤ ((imageD d).getD p.toNat ByteArray.empty).size := by omega
  rw [hr, put_size hle, hs]
  refine ⟨by omega, by omega, ?_⟩
  exact put_first

/-- All other sectors are as they were. -/
theorem read_other {d : Dk} {p o : Int} {s : ByteArray} (h : writeE d p s = 0) (ho : o ≠ p) : readT (more d p s) o = readT d o := by
  obtain ⟨h1, h2, h3, h4, h5⟩ := writeE_zero h
  cases hb : hasB d.ks.length o
  · rw [read_past (d := more d p s) hb, read_past hb]
  · have hb' := hasB_iff.1 hb
    rw [read_on (d := more d p s) rfl hb, read_on h1 hb, imageD_more]
    exact doW_getD_ne (w := ⟨p, s⟩) (by show o.toNat ≠ p.toNat; omega)
end Go.Proofs.Ytpkoonokagchgaa
