/- Two writes to one sector, and a sync in between, as lists. No program, no memory. -/
import Derived.Test.YtpkoonokagchgaaReadLists
namespace Go.Proofs.Ytpkoonokagchgaa

theorem list_put (t s : ByteArray) : (put t s).data.toList = s.data.toList ++ t.data.toList.drop s.size := by
  unfold put
  rw [ByteArray.data_append, Array.toList_append]
  congr 1
  rw [ByteArray.data_extract, Array.toList_extract]
  simp only [List.extract_eq_take_drop]
  apply List.take_of_length_le
  simp
theorem ext_list {a b : ByteArray} (h : a.data.toList = b.data.toList) : a = b := ByteArray.ext (Array.toList_inj.1 h)
theorem list_extract (a : ByteArray) (i j : Nat) : (a.extract i j).data.toList = (a.data.toList.drop i).take (j - i) := by
  rw [ByteArray.data_extract, Array.toList_extract]
theorem put_second {y s t : ByteArray} : (put (put y s) t).extract t.size s.size = s.extract t.size s.size := by
  apply ext_list
  have ht : t.data.toList.length = t.size := by simp
  have hs : s.data.toList.length = s.size := by simp
  rw [list_extract, list_extract, list_put, list_put]
  rw [List.drop_append, ht, Nat.sub_self, List.drop_zero, List.drop_of_length_le (by omega), List.nil_append, List.drop_append, List.take_append, List.length_drop, hs, Nat.sub_self, List.take_zero, List.append_nil]

/-- What is read of two writes, however they are synced. -/
structure LastIs (s t x : ByteArray) : Prop where
  a : t.size ≤ x.size
  b : s.size ≤ x.size
  c : x.extract 0 t.size = t
  e : ¬ s.size ≤ t.size → x.extract t.size s.size = s.extract t.size s.size

def syncD (d : Dk) : Dk := wipe d (imageD d)

theorem last_two {d : Dk} (hd : Ok d) {p : Int} {s t : ByteArray} (h : writeE d p s = 0) (h2 : writeE (more d p s) p t = 0) :
    LastIs s t (readT (more (more d p s) p t) p) ∧ writeE (syncD (more d p s)) p t = 0 ∧ readT (more (syncD (more d p s)) p t) p = readT (more (more d p s) p t) p := by
  obtain ⟨e1, e2, e3, e4, e5⟩ := writeE_zero h
  obtain ⟨_, _, _, f4, f5⟩ := writeE_zero h2
  have f5 : (t.size : Int) ≤ d.sz := f5
  have hhas : hasB d.ks.length p = true := hasB_iff.2 ⟨e2, e3⟩
  have hz := hd.s1
  have hs0 : ((imageD d).getD p.toNat ByteArray.empty).size = d.sz.toNat := (imageD_sized hd).getD (by rw [imageD_length]; omega)
  have hX : readT (more (more d p s) p t) p = put (put ((imageD d).getD p.toNat ByteArray.empty) s) t := by
    rw [read_on (d := more (more d p s) p t) rfl hhas, imageD_more, doW_getD (w := ⟨p, t⟩) e2 (by rw [imageD_length]; exact e3), imageD_more, doW_getD (w := ⟨p, s⟩) e2 (by rw [imageD_length]; exact e3)]
  have hl : (imageD (more d p s)).length = d.ks.length := imageD_length (more d p s)
  have hw : writeE (syncD (more d p s)) p t = 0 := by
    have h3 : hasB (imageD (more d p s)).length p = true := by rw [hl]; exact hhas
    have h4 : withinB t.size 1 d.sz = true := (writeE_ok h2).2.2
    show (if false = true then 14 else if hasB (imageD (more d p s)).length p = true then (if withinB t.size 1 d.sz = true then 0 else 1) else 5 : Int) = 0
    rw [h3, h4]
    rfl
  have hY : readT (more (syncD (more d p s)) p t) p = readT (more (more d p s) p t) p := by
    rw [hX, read_on (d := more (syncD (more d p s)) p t) rfl (by show hasB (imageD (more d p s)).length p = true; rw [hl]; exact hhas), imageD_more]
    have : imageD (syncD (more d p s)) = imageD (more d p s) := image_nil _
    rw [this, doW_getD (w := ⟨p, t⟩) e2 (by rw [hl]; exact e3), imageD_more, doW_getD (w := ⟨p, s⟩) e2 (by rw [imageD_length]; exact e3)]
  refine ⟨?_, hw, hY⟩
  rw [hX]
  have h3 : (put ((imageD d).getD p.toNat ByteArray.empty) s).size = d.sz.toNat := by rw [put_size (by omega), hs0]
  have h4 : (put (put ((imageD d).getD p.toNat ByteArray.empty) s) t).size = d.sz.toNat := by rw [put_size (by omega), h3]
  exact ⟨by omega, by omega, put_first, fun _ => put_second⟩
theorem syncD_ok {d : Dk} (h : Ok d) : Ok (syncD d) := h.image
end Go.Proofs.Ytpkoonokagchgaa
