/- What the document's own Parse answers. No conditions but on the text's size. -/
import Derived.Test.YtameffdjjcpbkaaDoorRefParsed
import Derived.Test.YtameffdjjcpbkaaDoorRef
import Derived.Test.YtameffdjjcpbkaaDoorParse
import Derived.Deep.RegionWith
namespace Go.Proofs.YtameffdjjcpbkaaDoor
open Go.ChangeShapes Go.WideShapes Go.ChangeAt Go.RowKit

theorem rnum_t {l : List UInt8} {B : ByteArray} {p k : Nat} {pi ki v : Int} {w : World} (hB : bytes l = B) (h : numAt l p k = v) (hpi : pi = (p : Int)) (hki : ki = (k : Int)) (hs : l.length ≤ 9223372036854775807) (hp : p ≤ 100) (hk : k ≤ 6) :
    Calls Tryd.prog 39 #[.string B, .int .i64 pi, .int .i64 ki] w fun e w' => e = .returned (.int .i64 v) ∧ w' = w := by
  subst hB hpi hki
  have := rnum_any (bytes l) p k w (by rw [bytes_size]; exact hs) hp hk
  rw [bytes_list, h] at this
  exact this
theorem ris_t {l : List UInt8} {B : ByteArray} {p : Nat} {c : UInt8} {pi ci : Int} {v : Bool} {w : World} (hB : bytes l = B) (h : isAt l p c = v) (hpi : pi = (p : Int)) (hci : ci = ((c.toNat : Nat) : Int)) :
    Calls Tryd.prog 40 #[.string B, .int .i64 pi, .int .u8 ci] w fun e w' => e = .returned (.bool v) ∧ w' = w := by
  subst hB hpi hci
  have := ris_any (bytes l) p c w
  rw [bytes_list, h] at this
  exact this
theorem numAt_bd (l : List UInt8) (p k : Nat) (hk : k ≤ 6) : -1 ≤ numAt l p k ∧ numAt l p k ≤ 1000000 := by
  unfold numAt
  split
  · rename_i h
    obtain ⟨h0, h1⟩ := numOf_bd _ ((figs_iff _ _).1 h).2
    have hl : ((l.drop p).take k).length = k := by rw [List.length_take]; have := ((figs_iff _ _).1 h).1; omega
    rw [hl] at h1
    have h2 : 10 ^ k ≤ 10 ^ 6 := Nat.pow_le_pow_right (by decide) hk
    have e : (10 : Int) ^ k = ((10 ^ k : Nat) : Int) := by simp
    rw [e] at h1
    omega
  · omega
theorem nano_step (l : List UInt8) (j : Nat) (hj : j < figs (l.drop 20) 6) : ∃ d : Int, numAt l (20 + j) 1 = d ∧ 0 ≤ d ∧ d ≤ 9 ∧ nanoN l (j + 1) = nanoN l j + ((10 ^ (8 - j) : Nat) : Int) * d := by
  have h6 := figs_le (l.drop 20) 6
  have hall := figs_all (l.drop 20) (figs (l.drop 20) 6) (by rw [figs_self]; exact Nat.le_refl _)
  have hl : j < (l.drop 20).length := by omega
  have hd : isDig (l.drop 20)[j] = true := hall _ (by rw [List.mem_take_iff_getElem]; exact ⟨j, by omega, rfl⟩)
  have hd' : 48 ≤ (((l.drop 20)[j]).toNat : Int) ∧ (((l.drop 20)[j]).toNat : Int) ≤ 57 := of_decide_eq_true hd
  refine ⟨(((l.drop 20)[j]).toNat : Int) - 48, ?_, by omega, by omega, ?_⟩
  · have e : l.drop (20 + j) = (l.drop 20)[j] :: l.drop (20 + j + 1) := by
      rw [show l.drop (20 + j) = (l.drop 20).drop j by rw [List.drop_drop], List.drop_eq_getElem_cons hl]
      rw [List.drop_drop]
      rfl
    unfold numAt
    rw [e]
    simp only [figs, hd, if_true, List.take_succ_cons, List.take_zero]
    simp [numOf]
  · unfold nanoN
    rw [List.take_succ_eq_append_getElem hl, numOf_snoc, show 9 - (j + 1) = 8 - j by omega, show 9 - j = (8 - j) + 1 by omega, Nat.pow_succ]
    push_cast
    generalize ((10 : Int) ^ (8 - j)) = P
    generalize numOf ((l.drop 20).take j) = a
    generalize (((l.drop 20)[j]).toNat : Int) - 48 = x
    rw [Int.add_mul, Int.mul_comm 10 a, Int.mul_assoc, Int.mul_comm 10 P, Int.mul_comm x P]
theorem nano_end (l : List UInt8) (j : Nat) (hj : j = figs (l.drop 20) 6) (h6 : j < 6) : numAt l (20 + j) 1 = -1 := by
  unfold numAt
  rw [if_neg]
  intro h
  have h1 := ((figs_iff _ _).1 h)
  have hle := figs_le (l.drop 20) 6
  have hall := figs_all (l.drop 20) (figs (l.drop 20) 6) (by rw [figs_self]; exact Nat.le_refl _)
  rw [List.length_drop] at h1
  have : j + 1 ≤ figs (l.drop 20) (j + 1) := by
    have := (figs_iff (l.drop 20) (j + 1)).2 ⟨by rw [List.length_drop]; omega, by
      intro c hc
      rw [List.take_succ_eq_append_getElem (by rw [List.length_drop]; omega), List.mem_append, List.mem_singleton] at hc
      rcases hc with hc | rfl
      · exact hall c (by rw [← hj]; exact hc)
      · refine h1.2 _ ?_
        rw [List.mem_take_iff_getElem]
        refine ⟨0, by rw [List.length_drop]; omega, ?_⟩
        simp only [List.getElem_drop]
        rfl⟩
    omega
  have mono : ∀ (a : List UInt8) (n m : Nat), n ≤ m → figs a n ≤ figs a m := by
    intro a
    induction a with
    | nil => intro n m _; cases n <;> cases m <;> simp [figs]
    | cons c a ih =>
      intro n m hnm
      cases n with
      | zero => simp [figs]
      | succ n =>
        cases m with
        | zero => omega
        | succ m =>
          simp only [figs]
          split
          · have := ih n m (by omega); omega
          · omega
  have := mono (l.drop 20) (j + 1) 6 (by omega)
  omega
theorem nanoN_bd (l : List UInt8) (j : Nat) (h : j ≤ figs (l.drop 20) 6) : 0 ≤ nanoN l j ∧ nanoN l j ≤ 999999999 := by
  have h6 := figs_le (l.drop 20) 6
  have hall := figs_all (l.drop 20) (figs (l.drop 20) 6) (by rw [figs_self]; exact Nat.le_refl _)
  have hd : ∀ c ∈ (l.drop 20).take j, isDig c = true := fun c hc => hall c (List.mem_of_mem_take (i := j) (by rw [List.take_take, Nat.min_eq_left h]; exact hc))
  have := numOf_bd _ hd
  rw [show ((l.drop 20).take j).length = j by rw [List.length_take]; omega] at this
  exact pow_split j _ (by omega) this.1 this.2
theorem rp_nano_none {l : List UInt8} (hm : marksR l = true) (hn : nanoR l = none) : rp l = wrongR := by unfold rp; rw [if_pos hm, hn]
theorem rp_zone_none {l : List UInt8} {n : Int} {p : Nat} (hn : nanoR l = some (n, p)) (hz : zoneR l p = none) : rp l = wrongR := by
  unfold rp
  rw [hn]
  simp only
  rw [hz]
  split <;> rfl
theorem rp_yes {l : List UInt8} {n z : Int} {p q : Nat} (hm : marksR l = true) (hn : nanoR l = some (n, p)) (hz : zoneR l p = some (z, q)) {Y M D h i s : Int}
    (e1 : numAt l 0 4 = Y) (e2 : numAt l 5 2 = M) (e3 : numAt l 8 2 = D) (e4 : numAt l 11 2 = h) (e5 : numAt l 14 2 = i) (e6 : numAt l 17 2 = s) :
    rp l = if rightB Y M D h i s n z = true then (Y, M, D, h, i, s, n, z, l.drop q, 0) else wrongR := by
  subst e1 e2 e3 e4 e5 e6
  unfold rp
  rw [if_pos hm, hn]
  simp only
  rw [hz]
def RParseAns (l : List UInt8) (w : World) (e : Ending) (w' : World) : Prop :=
  ∃ (y m d h i s n z : Int) (t : List UInt8) (err : Int), e = .returned (.tuple #[.agg #[.int .i64 y, .int .i64 m, .int .i64 d, .int .i64 h, .int .i64 i, .int .i64 s, .int .i64 n, .int .i64 z], .string (bytes t), .int .i64 err]) ∧ rp l = (y, m, d, h, i, s, n, z, t, err) ∧ Below w.heap.size w w'
end Go.Proofs.YtameffdjjcpbkaaDoor
