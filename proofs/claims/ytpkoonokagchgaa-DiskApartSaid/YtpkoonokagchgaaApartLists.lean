/- What a sector holds byte by byte behind a crash, as lists. No program, no memory. -/
import Derived.Test.YtpkoonokagchgaaLastLists
import Derived.Test.YtpkoonokagchgaaRefCrash
namespace Go.Proofs.Ytpkoonokagchgaa

/-- The byte at a place. -/
def byteL (x : ByteArray) (i : Nat) : Option UInt8 := x.data.toList[i]?

theorem byte_put {t s : ByteArray} {i : Nat} : byteL (put t s) i = if i < s.size then byteL s i else byteL t i := by
  unfold byteL
  rw [list_put]
  have hs : s.data.toList.length = s.size := by simp
  split
  · rename_i h
    rw [List.getElem?_append_left (by omega)]
  · rename_i h
    rw [List.getElem?_append_right (by omega), List.getElem?_drop, hs]
    congr 1
    omega

/-- A byte of a sector is the elder one, or one that was written there. -/
theorem image_byte {ks : List ByteArray} {ws : List Wr} {n z : Nat} (hn : ks.length = n) (hf : Fit n z ws) {j : Nat} (i : Nat) :
    byteL ((image ks ws).getD j ByteArray.empty) i = byteL (ks.getD j ByteArray.empty) i ∨ ∃ w ∈ ws, w.p = (j : Int) ∧ i < w.s.size ∧ byteL w.s i = byteL ((image ks ws).getD j ByteArray.empty) i := by
  induction ws generalizing ks with
  | nil => exact .inl rfl
  | cons w ws ih =>
    rw [image_cons]
    have h := ih (ks := doW ks w) (by rw [doW_length]; exact hn) hf.tail
    obtain ⟨h0, h1, _⟩ := hf.head
    rcases h with h | ⟨v, hv, hr⟩
    · by_cases hp : w.p = (j : Int)
      · have hd : (doW ks w).getD j ByteArray.empty = put (ks.getD j ByteArray.empty) w.s := by
          have := doW_getD (l := ks) (w := w) h0 (by omega)
          rw [hp, Int.toNat_natCast] at this
          exact this
        rw [hd, byte_put] at h
        by_cases hi : i < w.s.size
        · rw [if_pos hi] at h
          exact .inr ⟨w, by simp, hp, hi, h.symm⟩
        · rw [if_neg hi] at h
          exact .inl h
      · have hd : (doW ks w).getD j ByteArray.empty = ks.getD j ByteArray.empty := doW_getD_ne (by omega)
        rw [hd] at h
        exact .inl h
    · exact .inr ⟨v, by simp [hv], hr⟩

theorem byte_tear {w : Wr} {n : Int} {i : Nat} (h : i < (tear w n).s.size) : byteL (tear w n).s i = byteL w.s i ∧ i < w.s.size := by
  have hle := tear_le w n
  have hsz := tear_size w n
  refine ⟨?_, by omega⟩
  show ((w.s.extract 0 (min (max n 0) w.s.size).toNat).data.toList)[i]? = w.s.data.toList[i]?
  rw [list_extract, List.drop_zero, Nat.sub_zero, List.getElem?_take, if_pos (by omega)]

theorem crash_byte {d : Dk} (hd : Ok d) (ks : List Int) (j i : Nat) :
    byteL ((crashD d ks).getD j ByteArray.empty) i = byteL (d.ks.getD j ByteArray.empty) i ∨ ∃ w ∈ d.ws, w.p = (j : Int) ∧ i < w.s.size ∧ byteL w.s i = byteL ((crashD d ks).getD j ByteArray.empty) i := by
  rcases image_byte (ks := d.ks) rfl (tears_fit hd.fit ks) (j := j) i with h | ⟨v, hv, hp, hi, hb⟩
  · exact .inl h
  · obtain ⟨w, hw, n, rfl⟩ := tears_mem hv
    obtain ⟨q1, q2⟩ := byte_tear hi
    exact .inr ⟨w, hw, hp, q2, by rw [← q1]; exact hb⟩

theorem byteL_at {x : ByteArray} {i : Nat} (h : i < x.size) : byteL x i = some (x[i]'h) := by
  unfold byteL
  have : x.data.toList[i]? = some (x.data[i]'h) := by simp
  rw [this]
  rfl
theorem byte_eq {x y : ByteArray} {i : Nat} (h : i < x.size) (k : i < y.size) : byteL x i = byteL y i ↔ (((x[i]'h).toNat : Nat) : Int) = (((y[i]'k).toNat : Nat) : Int) := by
  rw [byteL_at h, byteL_at k]
  constructor
  · intro e
    rw [Option.some.inj e]
  · intro e
    exact congrArg some (UInt8.toNat_inj.1 (by omega))
end Go.Proofs.Ytpkoonokagchgaa
