/- The texts CalRefNano, CalRefParse, one behind the other. -/
import Derived.Test.YtmmghppjhmdikaaGreatDoorAF8
import Derived.Test.YtmmghppjhmdikaaGreatDoorAF9
import Derived.Test.YtmmghppjhmdikaaGreatDoorAF38
import Derived.Deep.RegionWith
/- What the document's own Parse answers. No conditions but on the text's size. -/
namespace Go.Proofs.YtmmghppjhmdikaaGreatDoor.Cal
open Go.ChangeShapes Go.WideShapes Go.ChangeAt Go.RowKit

theorem rnum_t {l : List UInt8} {B : ByteArray} {p k : Nat} {pi ki v : Int} {w : World} (hB : bytes l = B) (h : numAt l p k = v) (hpi : pi = (p : Int)) (hki : ki = (k : Int)) (hs : l.length ≤ 9223372036854775807) (hp : p ≤ 100) (hk : k ≤ 6) :
    Calls Tryz.prog 19 #[.string B, .int .i64 pi, .int .i64 ki] w fun e w' => e = .returned (.int .i64 v) ∧ w' = w := by
  subst hB hpi hki
  have := rnum_any (bytes l) p k w (by rw [bytes_size]; exact hs) hp hk
  rw [bytes_list, h] at this
  exact this
theorem ris_t {l : List UInt8} {B : ByteArray} {p : Nat} {c : UInt8} {pi ci : Int} {v : Bool} {w : World} (hB : bytes l = B) (h : isAt l p c = v) (hpi : pi = (p : Int)) (hci : ci = ((c.toNat : Nat) : Int)) :
    Calls Tryz.prog 20 #[.string B, .int .i64 pi, .int .u8 ci] w fun e w' => e = .returned (.bool v) ∧ w' = w := by
  subst hB hpi hci
  have := ris_any (bytes l) p c w
  rw [bytes_list, h] at this
  exact this
theorem numAt_bd (l : List UInt8) (p k : Nat) (hk : k ≤ 6) : -1 ≤ numAt l p k ∧ numAt l p k ≤ 1000000 := by
  unfold numAt
  split
  · rename_i h
    obtain ⟨h0, h1⟩ := numOf_bd _ ((figs_iff _ _).1 h).2
    have hl : ((l.drop p).take k).length = k := by rw [List.length_take]; have := ((figs_iff _ _).1 h).1; omega
    rw [hl] at h1
    have h2 : 10 ^ k ≤ 10 ^ 6 := Nat.pow_le_pow_right (by decide) hk
    have e : (10 : Int) ^ k = ((10 ^ k : Nat) : Int) := by simp
    rw [e] at h1
    omega
  · omega
theorem nano_step (l : List UInt8) (j : Nat) (hj : j < figs (l.drop 20) 6) : ∃ d : Int, numAt l (20 + j) 1 = d ∧ 0 ≤ d ∧ d ≤ 9 ∧ nanoN l (j + 1) = nanoN l j + ((10 ^ (8 - j) : Nat) : Int) * d := by
  have h6 := figs_le (l.drop 20) 6
  have hall := figs_all (l.drop 20) (figs (l.drop 20) 6) (by rw [figs_self]; exact Nat.le_refl _)
  have hl : j < (l.drop 20).length := by omega
  have hd : isDig (l.drop 20)[j] = true := hall _ (by rw [List.mem_take_iff_getElem]; exact ⟨j, by omega, rfl⟩)
  have hd' : 48 ≤ (((l.drop 20)[j]).toNat : Int) ∧ (((l.drop 20)[j]).toNat : Int) ≤ 57 := of_decide_eq_true hd
  refine ⟨(((l.drop 20)[j]).toNat : Int) - 48, ?_, by omega, by omega, ?_⟩
  · have e : l.drop (20 + j) = (l.drop 20)[j] :: l.drop (20 + j + 1) := by
      rw [show l.drop (20 + j) = (l.drop 20).drop j by rw [List.drop_drop], List.drop_eq_getElem_cons hl]
      rw [List.drop_drop]
      rfl
    unfold numAt
    rw [e]
    simp only [figs, hd, if_true, List.take_succ_cons, List.take_zero]
    simp [numOf]
  · unfold nanoN
    rw [List.take_succ_eq_append_getElem hl, numOf_snoc, show 9 - (j + 1) = 8 - j by omega, show 9 - j = (8 - j) + 1 by omega, Nat.pow_succ]
    push_cast
    generalize ((10 : Int) ^ (8 - j)) = P
    generalize numOf ((l.drop 20).take j) = a
    generalize (((l.drop 20)[j]).toNat : Int) - 48 = x
    rw [Int.add_mul, Int.mul_comm 10 a, Int.mul_assoc, Int.mul_comm 10 P, Int.mul_comm x P]
theorem nano_end (l : List UInt8) (j : Nat) (hj : j = figs (l.drop 20) 6) (h6 : j < 6) : numAt l (20 + j) 1 = -1 := by
  unfold numAt
  rw [if_neg]
  intro h
  have h1 := ((figs_iff _ _).1 h)
  have hle := figs_le (l.drop 20) 6
  have hall := figs_all (l.drop 20) (figs (l.drop 20) 6) (by rw [figs_self]; exact Nat.le_refl _)
  rw [List.length_drop] at h1
  have : j + 1 ≤ figs (l.drop 20) (j + 1) := by
    have := (figs_iff (l.drop 20) (j + 1)).2 ⟨by rw [List.length_drop]; omega, by
      intro c hc
      rw [List.take_succ_eq_append_getElem (by rw [List.length_drop]; omega), List.mem_append, List.mem_singleton] at hc
      rcases hc with hc | rfl
      · exact hall c (by rw [← hj]; exact hc)
      · refine h1.2 _ ?_
        rw [List.mem_take_iff_getElem]
        refine ⟨0, by rw [List.length_drop]; omega, ?_⟩
        simp only [List.getElem_drop]
        rfl⟩
    omega
  have mono : ∀ (a : List UInt8) (n m : Nat), n ≤ m → figs a n ≤ figs a m := by
    intro a
    induction a with
    | nil => intro n m _; cases n <;> cases m <;> simp [figs]
    | cons c a ih =>
      intro n m hnm
      cases n with
      | zero => simp [figs]
      | succ n =>
        cases m with
        | zero => omega
        | succ m =>
          simp only [figs]
          split
          · have := ih n m (by omega); omega
          · omega
  have := mono (l.drop 20) (j + 1) 6 (by omega)
  omega
theorem nanoN_bd (l : List UInt8) (j : Nat) (h : j ≤ figs (l.drop 20) 6) : 0 ≤ nanoN l j ∧ nanoN l j ≤ 999999999 := by
  have h6 := figs_le (l.drop 20) 6
  have hall := figs_all (l.drop 20) (figs (l.drop 20) 6) (by rw [figs_self]; exact Nat.le_refl _)
  have hd : ∀ c ∈ (l.drop 20).take j, isDig c = true := fun c hc => hall c (List.mem_of_mem_take (i := j) (by rw [List.take_take, Nat.min_eq_left h]; exact hc))
  have := numOf_bd _ hd
  rw [show ((l.drop 20).take j).length = j by rw [List.length_take]; omega] at this
  exact pow_split j _ (by omega) this.1 this.2
theorem rp_nano_none {l : List UInt8} (hm : marksR l = true) (hn : nanoR l = none) : rp l = wrongR := by unfold rp; rw [if_pos hm, hn]
theorem rp_zone_none {l : List UInt8} {n : Int} {p : Nat} (hn : nanoR l = some (n, p)) (hz : zoneR l p = none) : rp l = wrongR := by
  unfold rp
  rw [hn]
  simp only
  rw [hz]
  split <;> rfl
theorem rp_yes {l : List UInt8} {n z : Int} {p q : Nat} (hm : marksR l = true) (hn : nanoR l = some (n, p)) (hz : zoneR l p = some (z, q)) {Y M D h i s : Int}
    (e1 : numAt l 0 4 = Y) (e2 : numAt l 5 2 = M) (e3 : numAt l 8 2 = D) (e4 : numAt l 11 2 = h) (e5 : numAt l 14 2 = i) (e6 : numAt l 17 2 = s) :
    rp l = if rightB Y M D h i s n z = true then (Y, M, D, h, i, s, n, z, l.drop q, 0) else wrongR := by
  subst e1 e2 e3 e4 e5 e6
  unfold rp
  rw [if_pos hm, hn]
  simp only
  rw [hz]
def RParseAns (l : List UInt8) (w : World) (e : Ending) (w' : World) : Prop :=
  ∃ (y m d h i s n z : Int) (t : List UInt8) (err : Int), e = .returned (.tuple #[.agg #[.int .i64 y, .int .i64 m, .int .i64 d, .int .i64 h, .int .i64 i, .int .i64 s, .int .i64 n, .int .i64 z], .string (bytes t), .int .i64 err]) ∧ rp l = (y, m, d, h, i, s, n, z, t, err) ∧ Below w.heap.size w w'
end Go.Proofs.YtmmghppjhmdikaaGreatDoor.Cal
/- What the document's own Parse answers. No conditions but on the text's size. -/
namespace Go.Proofs.YtmmghppjhmdikaaGreatDoor.Cal
open Go.ChangeShapes Go.WideShapes Go.ChangeAt Go.RowKit

theorem pow_next (j : Nat) (h : j < 6) : ((10 ^ (8 - j) : Nat) : Int) / 10 = ((10 ^ (8 - (j + 1)) : Nat) : Int) := by
  rw [show 8 - j = (8 - (j + 1)) + 1 by omega, Nat.pow_succ]
  generalize 10 ^ (8 - (j + 1)) = P
  omega
theorem pow_bd (j : Nat) : (1 : Int) ≤ ((10 ^ (8 - j) : Nat) : Int) ∧ ((10 ^ (8 - j) : Nat) : Int) ≤ 100000000 := by
  have h1 := Nat.pow_le_pow_right (show 0 < 10 by decide) (show 8 - j ≤ 8 by omega)
  have h2 := Nat.pow_pos (n := 8 - j) (show 0 < 10 by decide)
  have h8 : (10 : Nat) ^ 8 = 100000000 := rfl
  rw [h8] at h1
  omega
theorem slice_end {l : List UInt8} {B : ByteArray} (hB : bytes l = B) (q : Nat) : B.extract q B.size = bytes (l.drop q) := by
  subst hB
  rw [Lib.extract_eq, bytes_list, bytes_size, List.take_of_length_le (by rw [List.length_drop]; omega)]
  rfl
theorem isAt_lt {l : List UInt8} {p : Nat} {c : UInt8} (h : isAt l p c = true) : p < l.length := by
  have h' : l[p]? = some c := of_decide_eq_true h
  obtain ⟨h1, _⟩ := List.getElem?_eq_some_iff.1 h'
  exact h1
theorem numAt_in {l : List UInt8} {p k : Nat} (hk : 0 < k) (h : 0 ≤ numAt l p k) : p + k ≤ l.length := by
  have := ((figs_iff _ _).1 ((numAt_ok ..).1 h)).1
  rw [List.length_drop] at this
  omega
theorem isAt_two {l : List UInt8} {p : Nat} (h : isAt l p 43 = true) : isAt l p 45 = false := by
  have h' : l[p]? = some 43 := of_decide_eq_true h
  unfold isAt
  rw [h']
  rfl
set_option maxHeartbeats 4000000 in
set_option maxRecDepth 100000 in
theorem rparse_any (l : List UInt8) (w : World) (hl : l.length ≤ 9223372036854775807) : Calls Tryz.prog 12 #[.string (bytes l)] w (RParseAns l w) := by
  have hsd : ∀ (X : World) (n : Nat) (p : Addr) (v : Value), (X.drewN n).setCell p v = (X.setCell p v).drewN n := fun _ _ _ _ => rfl
  obtain ⟨B, hB⟩ : ∃ B, bytes l = B := ⟨_, rfl⟩
  have hz : B.size = l.length := by rw [← hB, bytes_size]
  have HB := Lib.hid hB
  rw [hB]
  clear hB
  obtain ⟨Y, hN1⟩ : ∃ v, numAt l 0 4 = v := ⟨_, rfl⟩
  have N1 := Lib.hid hN1
  clear hN1
  obtain ⟨M, hN2⟩ : ∃ v, numAt l 5 2 = v := ⟨_, rfl⟩
  have N2 := Lib.hid hN2
  clear hN2
  obtain ⟨D, hN3⟩ : ∃ v, numAt l 8 2 = v := ⟨_, rfl⟩
  have N3 := Lib.hid hN3
  clear hN3
  obtain ⟨h, hN4⟩ : ∃ v, numAt l 11 2 = v := ⟨_, rfl⟩
  have N4 := Lib.hid hN4
  clear hN4
  obtain ⟨i, hN5⟩ : ∃ v, numAt l 14 2 = v := ⟨_, rfl⟩
  have N5 := Lib.hid hN5
  clear hN5
  obtain ⟨s, hN6⟩ : ∃ v, numAt l 17 2 = v := ⟨_, rfl⟩
  have N6 := Lib.hid hN6
  clear hN6
  obtain ⟨m4, hP4⟩ : ∃ v, isAt l 4 45 = v := ⟨_, rfl⟩
  have P4 := Lib.hid hP4
  clear hP4
  obtain ⟨m7, hP7⟩ : ∃ v, isAt l 7 45 = v := ⟨_, rfl⟩
  have P7 := Lib.hid hP7
  clear hP7
  obtain ⟨m10, hP10⟩ : ∃ v, isAt l 10 84 = v := ⟨_, rfl⟩
  have P10 := Lib.hid hP10
  clear hP10
  obtain ⟨m13, hP13⟩ : ∃ v, isAt l 13 58 = v := ⟨_, rfl⟩
  have P13 := Lib.hid hP13
  clear hP13
  obtain ⟨m16, hP16⟩ : ∃ v, isAt l 16 58 = v := ⟨_, rfl⟩
  have P16 := Lib.hid hP16
  clear hP16
  have HMM := Lib.hid (show marksR l = (m4 && m7 && m10 && m13 && m16) by unfold marksR; rw [P4.out, P7.out, P10.out, P13.out, P16.out])
  have HX : ∀ q : Nat, B.extract q l.length = bytes (l.drop q) := fun q => by have := slice_end HB.out q; rwa [hz] at this
  go_enter Tryz.func12, Tryz.ntmps12
  go_wp2_with fail
  refine (rnum_t (p := 0) (k := 4) HB.out N1.out rfl rfl (by omega) (by omega) (by omega)).mono ?_
  rintro e w' ⟨rfl, rfl⟩
  go_wp2_with fail
  refine (rnum_t (p := 5) (k := 2) HB.out N2.out rfl rfl (by omega) (by omega) (by omega)).mono ?_
  rintro e w' ⟨rfl, rfl⟩
  go_wp2_with fail
  refine (rnum_t (p := 8) (k := 2) HB.out N3.out rfl rfl (by omega) (by omega) (by omega)).mono ?_
  rintro e w' ⟨rfl, rfl⟩
  go_wp2_with fail
  refine (rnum_t (p := 11) (k := 2) HB.out N4.out rfl rfl (by omega) (by omega) (by omega)).mono ?_
  rintro e w' ⟨rfl, rfl⟩
  go_wp2_with fail
  refine (rnum_t (p := 14) (k := 2) HB.out N5.out rfl rfl (by omega) (by omega) (by omega)).mono ?_
  rintro e w' ⟨rfl, rfl⟩
  go_wp2_with fail
  refine (rnum_t (p := 17) (k := 2) HB.out N6.out rfl rfl (by omega) (by omega) (by omega)).mono ?_
  rintro e w' ⟨rfl, rfl⟩
  go_wp2_with fail
  refine (ris_t (p := 4) (c := 45) HB.out P4.out rfl rfl).mono ?_
  rintro e w' ⟨rfl, rfl⟩
  cases m4 with
  | false =>
    have RW := Lib.hid (show rp l = wrongR by unfold rp; rw [if_neg (by rw [HMM.out]; simp)])
    go_wp2
    refine bodyPost_ret (v := .tuple #[.agg #[.int .i64 0, .int .i64 0, .int .i64 0, .int .i64 0, .int .i64 0, .int .i64 0, .int .i64 0, .int .i64 0], .string (bytes []), .int .i64 3])
      (by simp [results, Tryz.results12, go_sem, empty_bytes]) rfl ⟨0, 0, 0, 0, 0, 0, 0, 0, [], 3, rfl, RW.out, ?_⟩
    exact ((Below.refl _ _).alloc (Nat.le_refl _) _).alloc (by simp) _
  | true =>
    go_wp2_with fail
    refine (ris_t (p := 7) (c := 45) HB.out P7.out rfl rfl).mono ?_
    rintro e w' ⟨rfl, rfl⟩
    cases m7 with
    | false =>
      have RW := Lib.hid (show rp l = wrongR by unfold rp; rw [if_neg (by rw [HMM.out]; simp)])
      go_wp2
      refine bodyPost_ret (v := .tuple #[.agg #[.int .i64 0, .int .i64 0, .int .i64 0, .int .i64 0, .int .i64 0, .int .i64 0, .int .i64 0, .int .i64 0], .string (bytes []), .int .i64 3])
        (by simp [results, Tryz.results12, go_sem, empty_bytes]) rfl ⟨0, 0, 0, 0, 0, 0, 0, 0, [], 3, rfl, RW.out, ?_⟩
      exact ((Below.refl _ _).alloc (Nat.le_refl _) _).alloc (by simp) _
    | true =>
      go_wp2_with fail
      refine (ris_t (p := 10) (c := 84) HB.out P10.out rfl rfl).mono ?_
      rintro e w' ⟨rfl, rfl⟩
      cases m10 with
      | false =>
        have RW := Lib.hid (show rp l = wrongR by unfold rp; rw [if_neg (by rw [HMM.out]; simp)])
        go_wp2
        refine bodyPost_ret (v := .tuple #[.agg #[.int .i64 0, .int .i64 0, .int .i64 0, .int .i64 0, .int .i64 0, .int .i64 0, .int .i64 0, .int .i64 0], .string (bytes []), .int .i64 3])
          (by simp [results, Tryz.results12, go_sem, empty_bytes]) rfl ⟨0, 0, 0, 0, 0, 0, 0, 0, [], 3, rfl, RW.out, ?_⟩
        exact ((Below.refl _ _).alloc (Nat.le_refl _) _).alloc (by simp) _
      | true =>
        go_wp2_with fail
        refine (ris_t (p := 13) (c := 58) HB.out P13.out rfl rfl).mono ?_
        rintro e w' ⟨rfl, rfl⟩
        cases m13 with
        | false =>
          have RW := Lib.hid (show rp l = wrongR by unfold rp; rw [if_neg (by rw [HMM.out]; simp)])
          go_wp2
          refine bodyPost_ret (v := .tuple #[.agg #[.int .i64 0, .int .i64 0, .int .i64 0, .int .i64 0, .int .i64 0, .int .i64 0, .int .i64 0, .int .i64 0], .string (bytes []), .int .i64 3])
            (by simp [results, Tryz.results12, go_sem, empty_bytes]) rfl ⟨0, 0, 0, 0, 0, 0, 0, 0, [], 3, rfl, RW.out, ?_⟩
          exact ((Below.refl _ _).alloc (Nat.le_refl _) _).alloc (by simp) _
        | true =>
          go_wp2_with fail
          refine (ris_t (p := 16) (c := 58) HB.out P16.out rfl rfl).mono ?_
          rintro e w' ⟨rfl, rfl⟩
          cases m16 with
          | false =>
            have RW := Lib.hid (show rp l = wrongR by unfold rp; rw [if_neg (by rw [HMM.out]; simp)])
            go_wp2
            refine bodyPost_ret (v := .tuple #[.agg #[.int .i64 0, .int .i64 0, .int .i64 0, .int .i64 0, .int .i64 0, .int .i64 0, .int .i64 0, .int .i64 0], .string (bytes []), .int .i64 3])
              (by simp [results, Tryz.results12, go_sem, empty_bytes]) rfl ⟨0, 0, 0, 0, 0, 0, 0, 0, [], 3, rfl, RW.out, ?_⟩
            exact ((Below.refl _ _).alloc (Nat.le_refl _) _).alloc (by simp) _
          | true =>
            have HM := Lib.hid (show marksR l = true by rw [HMM.out]; rfl)
            clear HMM P4 P7 P10 P13 P16
            obtain ⟨b6, hb46⟩ : ∃ v, isAt l 19 46 = v := ⟨_, rfl⟩
            have K46 := Lib.hid hb46
            clear hb46
            go_wp2_with fail
            refine (ris_t (p := 19) (c := 46) HB.out K46.out rfl rfl).mono ?_
            rintro e w' ⟨rfl, rfl⟩
            cases b6 with
            | false =>
              have HN := Lib.hid (show nanoR l = some (0, 19) by unfold nanoR; rw [if_neg (by rw [K46.out]; decide)])
              clear K46
              obtain ⟨Hh, hHh⟩ : ∃ v, numAt l (19 + 1) 2 = v := ⟨_, rfl⟩
              obtain ⟨Mm, hMm⟩ : ∃ v, numAt l (19 + 4) 2 = v := ⟨_, rfl⟩
              obtain ⟨b9, hb90⟩ : ∃ v, isAt l (19) 90 = v := ⟨_, rfl⟩
              obtain ⟨b3, hb43⟩ : ∃ v, isAt l (19) 43 = v := ⟨_, rfl⟩
              obtain ⟨b5, hb45⟩ : ∃ v, isAt l (19) 45 = v := ⟨_, rfl⟩
              obtain ⟨b8, hb58⟩ : ∃ v, isAt l (19 + 3) 58 = v := ⟨_, rfl⟩
              have hHb := numAt_bd l (19 + 1) 2 (by omega)
              have hMb := numAt_bd l (19 + 4) 2 (by omega)
              rw [hHh] at hHb
              rw [hMm] at hMb
              have K90 := Lib.hid hb90
              have K43 := Lib.hid hb43
              have K45 := Lib.hid hb45
              have K58 := Lib.hid hb58
              have KH := Lib.hid hHh
              have KM := Lib.hid hMm
              clear hHh hMm hb90 hb43 hb45 hb58
              go_wp2_with fail
              refine (ris_t (p := 19) (c := 90) HB.out K90.out (by omega) rfl).mono ?_
              rintro e w' ⟨rfl, rfl⟩
              cases b9 with
              | true =>
                have hq := isAt_lt K90.out
                have hq1 : (19 + 1 : Nat) ≤ B.size := by omega
                have HQ := rp_yes HM.out HN.out (show zoneR l (19) = some (0, 19 + 1) by unfold zoneR; rw [if_pos K90.out]) N1.out N2.out N3.out N4.out N5.out N6.out
                have HQQ := Lib.hid HQ
                clear HQ
                have bw9 : Below w.heap.size w ((w.alloc (.cells #[.int .i64 0, .int .i64 0, .int .i64 0, .int .i64 0, .int .i64 0, .int .i64 0, .int .i64 0, .int .i64 0] 50)).alloc (.cells #[.int .i64 Y, .int .i64 M, .int .i64 D, .int .i64 h, .int .i64 i, .int .i64 s, .int .i64 (0), .int .i64 (0)] 50)) := ((Below.refl _ _).alloc (Nat.le_refl _) _).alloc (by simp) _
                go_wp2_with fail
                refine (rright_any _ _ _ _ _ _ _ _ _).mono ?_
                rintro e w9 ⟨rfl, hb9⟩
                have bb9 := bw9.trans (hb9.mono (by simp <;> omega))
                obtain ⟨hc9, hf9⟩ := bcell hb9
                have hz9 : w.heap.size + 1 < w9.heap.size := by have := hb9.size; simp at this; omega
                clear hb9 bw9
                obtain ⟨r0, r1, r2, r3, r4, r5, r6, r7⟩ : w9.cell? ⟨w.heap.size, 0, none⟩ = some (.int .i64 0) ∧ w9.cell? ⟨w.heap.size, 1, none⟩ = some (.int .i64 0) ∧ w9.cell? ⟨w.heap.size, 2, none⟩ = some (.int .i64 0) ∧ w9.cell? ⟨w.heap.size, 3, none⟩ = some (.int .i64 0) ∧ w9.cell? ⟨w.heap.size, 4, none⟩ = some (.int .i64 0) ∧ w9.cell? ⟨w.heap.size, 5, none⟩ = some (.int .i64 0) ∧ w9.cell? ⟨w.heap.size, 6, none⟩ = some (.int .i64 0) ∧ w9.cell? ⟨w.heap.size, 7, none⟩ = some (.int .i64 0) := by simp [hc9, go_sem]
                by_cases hr : rightB Y M D h i s (0) (0) = true
                · have HY := Lib.hid ((HQQ.out).trans (if_pos hr))
                  go_wp2
                  go_region
                  go_wp2
                  refine bodyPost_ret (v := .tuple #[.agg #[.int .i64 Y, .int .i64 M, .int .i64 D, .int .i64 h, .int .i64 i, .int .i64 s, .int .i64 (0), .int .i64 (0)], .string (bytes (l.drop (19 + 1))), .int .i64 0])
                    (by simp [results, Tryz.results12, go_sem, r0, r1, r2, r3, r4, r5, r6, r7]) rfl ⟨_, _, _, _, _, _, _, _, _, _, rfl, HY.out, ?_⟩
                  exact store8 bb9 _ _ _ _ _ _ _ _
                · have HY := Lib.hid ((HQQ.out).trans (if_neg hr))
                  have hr' : rightB Y M D h i s (0) (0) = false := by simpa using hr
                  clear hr
                  go_wp2
                  refine bodyPost_ret (v := .tuple #[.agg #[.int .i64 0, .int .i64 0, .int .i64 0, .int .i64 0, .int .i64 0, .int .i64 0, .int .i64 0, .int .i64 0], .string (bytes []), .int .i64 3])
                    (by simp [results, Tryz.results12, go_sem, empty_bytes, r0, r1, r2, r3, r4, r5, r6, r7]) rfl ⟨0, 0, 0, 0, 0, 0, 0, 0, [], 3, rfl, HY.out, ?_⟩
                  have hle := Nat.le_refl w.heap.size
                  exact ((((((((bb9.setCell (p := ⟨w.heap.size, 0, none⟩) hle _).setCell (p := ⟨w.heap.size, 1, none⟩) hle _).setCell (p := ⟨w.heap.size, 2, none⟩) hle _).setCell (p := ⟨w.heap.size, 3, none⟩) hle _).setCell (p := ⟨w.heap.size, 4, none⟩) hle _).setCell (p := ⟨w.heap.size, 5, none⟩) hle _).setCell (p := ⟨w.heap.size, 6, none⟩) hle _).setCell (p := ⟨w.heap.size, 7, none⟩) hle _)
              | false =>
                go_wp2_with fail
                refine (ris_t (p := 19) (c := 43) HB.out K43.out (by omega) rfl).mono ?_
                rintro e w' ⟨rfl, rfl⟩
                go_wp2_with fail
                refine (ris_t (p := 19) (c := 45) HB.out K45.out (by omega) rfl).mono ?_
                rintro e w' ⟨rfl, rfl⟩
                go_wp2_with fail
                refine (ris_t (p := 19 + 3) (c := 58) HB.out K58.out (by omega) rfl).mono ?_
                rintro e w' ⟨rfl, rfl⟩
                go_wp2_with fail
                refine (rnum_t (p := 19 + 1) (k := 2) HB.out KH.out (by omega) rfl (by omega) (by omega) (by omega)).mono ?_
                rintro e w' ⟨rfl, rfl⟩
                go_wp2_with fail
                refine (rnum_t (p := 19 + 4) (k := 2) HB.out KM.out (by omega) rfl (by omega) (by omega) (by omega)).mono ?_
                rintro e w' ⟨rfl, rfl⟩
                by_cases hZ : (b3 = true ∨ b5 = true) ∧ b8 = true ∧ (0 ≤ Hh ∧ Hh ≤ 23) ∧ (0 ≤ Mm ∧ Mm ≤ 59)
                · obtain ⟨hs1, rfl, ⟨hh1, hh2⟩, hm1, hm2⟩ := hZ
                  have hq : 19 + 6 ≤ l.length := by have := numAt_in (l := l) (p := 19 + 4) (k := 2) (by omega) (by rw [KM.out]; exact hm1); omega
                  have hq1 : (19 + 6 : Nat) ≤ B.size := by omega
                  have HZ := Lib.hid (show zoneR l (19) = some (if b5 = true then -(60 * Hh + Mm) else 60 * Hh + Mm, 19 + 6) by unfold zoneR; rw [if_neg (by rw [K90.out]; decide), KH.out, KM.out, K43.out, K45.out, K58.out, if_pos (by simp only [Bool.and_eq_true, Bool.or_eq_true, decide_eq_true_iff]; exact ⟨⟨⟨hs1, trivial⟩, hh1, hh2⟩, hm1, hm2⟩)])
                  cases b5 with
                  | true =>
                    obtain rfl : b3 = false := by cases b3 with
                      | false => rfl
                      | true => have := isAt_two K43.out; rw [K45.out] at this; cases this
                    have HQQ := Lib.hid (rp_yes (z := -(60 * Hh + Mm)) HM.out HN.out (HZ.out) N1.out N2.out N3.out N4.out N5.out N6.out)
                    clear hs1
                    have bw9 : Below w.heap.size w ((w.alloc (.cells #[.int .i64 0, .int .i64 0, .int .i64 0, .int .i64 0, .int .i64 0, .int .i64 0, .int .i64 0, .int .i64 0] 50)).alloc (.cells #[.int .i64 Y, .int .i64 M, .int .i64 D, .int .i64 h, .int .i64 i, .int .i64 s, .int .i64 (0), .int .i64 (-(60 * Hh + Mm))] 50)) := ((Below.refl _ _).alloc (Nat.le_refl _) _).alloc (by simp) _
                    go_wp2_with fail
                    refine (rright_any _ _ _ _ _ _ _ _ _).mono ?_
                    rintro e w9 ⟨rfl, hb9⟩
                    have bb9 := bw9.trans (hb9.mono (by simp <;> omega))
                    obtain ⟨hc9, hf9⟩ := bcell hb9
                    have hz9 : w.heap.size + 1 < w9.heap.size := by have := hb9.size; simp at this; omega
                    clear hb9 bw9
                    obtain ⟨r0, r1, r2, r3, r4, r5, r6, r7⟩ : w9.cell? ⟨w.heap.size, 0, none⟩ = some (.int .i64 0) ∧ w9.cell? ⟨w.heap.size, 1, none⟩ = some (.int .i64 0) ∧ w9.cell? ⟨w.heap.size, 2, none⟩ = some (.int .i64 0) ∧ w9.cell? ⟨w.heap.size, 3, none⟩ = some (.int .i64 0) ∧ w9.cell? ⟨w.heap.size, 4, none⟩ = some (.int .i64 0) ∧ w9.cell? ⟨w.heap.size, 5, none⟩ = some (.int .i64 0) ∧ w9.cell? ⟨w.heap.size, 6, none⟩ = some (.int .i64 0) ∧ w9.cell? ⟨w.heap.size, 7, none⟩ = some (.int .i64 0) := by simp [hc9, go_sem]
                    by_cases hr : rightB Y M D h i s (0) (-(60 * Hh + Mm)) = true
                    · have HY := Lib.hid ((HQQ.out).trans (if_pos hr))
                      go_wp2
                      go_region
                      go_wp2
                      refine bodyPost_ret (v := .tuple #[.agg #[.int .i64 Y, .int .i64 M, .int .i64 D, .int .i64 h, .int .i64 i, .int .i64 s, .int .i64 (0), .int .i64 (-(60 * Hh + Mm))], .string (bytes (l.drop (19 + 6))), .int .i64 0])
                        (by simp [results, Tryz.results12, go_sem, r0, r1, r2, r3, r4, r5, r6, r7]) rfl ⟨_, _, _, _, _, _, _, _, _, _, rfl, HY.out, ?_⟩
                      exact store8 bb9 _ _ _ _ _ _ _ _
                    · have HY := Lib.hid ((HQQ.out).trans (if_neg hr))
                      have hr' : rightB Y M D h i s (0) (-(60 * Hh + Mm)) = false := by simpa using hr
                      clear hr
                      go_wp2
                      refine bodyPost_ret (v := .tuple #[.agg #[.int .i64 0, .int .i64 0, .int .i64 0, .int .i64 0, .int .i64 0, .int .i64 0, .int .i64 0, .int .i64 0], .string (bytes []), .int .i64 3])
                        (by simp [results, Tryz.results12, go_sem, empty_bytes, r0, r1, r2, r3, r4, r5, r6, r7]) rfl ⟨0, 0, 0, 0, 0, 0, 0, 0, [], 3, rfl, HY.out, ?_⟩
                      have hle := Nat.le_refl w.heap.size
                      exact ((((((((bb9.setCell (p := ⟨w.heap.size, 0, none⟩) hle _).setCell (p := ⟨w.heap.size, 1, none⟩) hle _).setCell (p := ⟨w.heap.size, 2, none⟩) hle _).setCell (p := ⟨w.heap.size, 3, none⟩) hle _).setCell (p := ⟨w.heap.size, 4, none⟩) hle _).setCell (p := ⟨w.heap.size, 5, none⟩) hle _).setCell (p := ⟨w.heap.size, 6, none⟩) hle _).setCell (p := ⟨w.heap.size, 7, none⟩) hle _)
                  | false =>
                    obtain rfl : b3 = true := hs1.resolve_right Bool.false_ne_true
                    have HQQ := Lib.hid (rp_yes (z := 60 * Hh + Mm) HM.out HN.out (HZ.out) N1.out N2.out N3.out N4.out N5.out N6.out)
                    clear hs1
                    have bw9 : Below w.heap.size w ((w.alloc (.cells #[.int .i64 0, .int .i64 0, .int .i64 0, .int .i64 0, .int .i64 0, .int .i64 0, .int .i64 0, .int .i64 0] 50)).alloc (.cells #[.int .i64 Y, .int .i64 M, .int .i64 D, .int .i64 h, .int .i64 i, .int .i64 s, .int .i64 (0), .int .i64 (60 * Hh + Mm)] 50)) := ((Below.refl _ _).alloc (Nat.le_refl _) _).alloc (by simp) _
                    go_wp2_with fail
                    refine (rright_any _ _ _ _ _ _ _ _ _).mono ?_
                    rintro e w9 ⟨rfl, hb9⟩
                    have bb9 := bw9.trans (hb9.mono (by simp <;> omega))
                    obtain ⟨hc9, hf9⟩ := bcell hb9
                    have hz9 : w.heap.size + 1 < w9.heap.size := by have := hb9.size; simp at this; omega
                    clear hb9 bw9
                    obtain ⟨r0, r1, r2, r3, r4, r5, r6, r7⟩ : w9.cell? ⟨w.heap.size, 0, none⟩ = some (.int .i64 0) ∧ w9.cell? ⟨w.heap.size, 1, none⟩ = some (.int .i64 0) ∧ w9.cell? ⟨w.heap.size, 2, none⟩ = some (.int .i64 0) ∧ w9.cell? ⟨w.heap.size, 3, none⟩ = some (.int .i64 0) ∧ w9.cell? ⟨w.heap.size, 4, none⟩ = some (.int .i64 0) ∧ w9.cell? ⟨w.heap.size, 5, none⟩ = some (.int .i64 0) ∧ w9.cell? ⟨w.heap.size, 6, none⟩ = some (.int .i64 0) ∧ w9.cell? ⟨w.heap.size, 7, none⟩ = some (.int .i64 0) := by simp [hc9, go_sem]
                    by_cases hr : rightB Y M D h i s (0) (60 * Hh + Mm) = true
                    · have HY := Lib.hid ((HQQ.out).trans (if_pos hr))
                      go_wp2
                      go_region
                      go_wp2
                      refine bodyPost_ret (v := .tuple #[.agg #[.int .i64 Y, .int .i64 M, .int .i64 D, .int .i64 h, .int .i64 i, .int .i64 s, .int .i64 (0), .int .i64 (60 * Hh + Mm)], .string (bytes (l.drop (19 + 6))), .int .i64 0])
                        (by simp [results, Tryz.results12, go_sem, r0, r1, r2, r3, r4, r5, r6, r7]) rfl ⟨_, _, _, _, _, _, _, _, _, _, rfl, HY.out, ?_⟩
                      exact store8 bb9 _ _ _ _ _ _ _ _
                    · have HY := Lib.hid ((HQQ.out).trans (if_neg hr))
                      have hr' : rightB Y M D h i s (0) (60 * Hh + Mm) = false := by simpa using hr
                      clear hr
                      go_wp2
                      refine bodyPost_ret (v := .tuple #[.agg #[.int .i64 0, .int .i64 0, .int .i64 0, .int .i64 0, .int .i64 0, .int .i64 0, .int .i64 0, .int .i64 0], .string (bytes []), .int .i64 3])
                        (by simp [results, Tryz.results12, go_sem, empty_bytes, r0, r1, r2, r3, r4, r5, r6, r7]) rfl ⟨0, 0, 0, 0, 0, 0, 0, 0, [], 3, rfl, HY.out, ?_⟩
                      have hle := Nat.le_refl w.heap.size
                      exact ((((((((bb9.setCell (p := ⟨w.heap.size, 0, none⟩) hle _).setCell (p := ⟨w.heap.size, 1, none⟩) hle _).setCell (p := ⟨w.heap.size, 2, none⟩) hle _).setCell (p := ⟨w.heap.size, 3, none⟩) hle _).setCell (p := ⟨w.heap.size, 4, none⟩) hle _).setCell (p := ⟨w.heap.size, 5, none⟩) hle _).setCell (p := ⟨w.heap.size, 6, none⟩) hle _).setCell (p := ⟨w.heap.size, 7, none⟩) hle _)
                · have RW := Lib.hid (show rp l = wrongR from rp_zone_none HN.out (show zoneR l (19) = none by unfold zoneR; rw [if_neg (by rw [K90.out]; decide), KH.out, KM.out, K43.out, K45.out, K58.out, if_neg (by simp only [Bool.and_eq_true, Bool.or_eq_true, decide_eq_true_iff]; rintro ⟨⟨⟨a, b⟩, c1, c2⟩, d1, d2⟩; exact hZ ⟨a, b, ⟨c1, c2⟩, d1, d2⟩)]))
                  have hL : (b3 = false ∧ b5 = false) ∨ (((b3 = true ∧ True) ∨ (b3 = false ∧ b5 = true)) ∧ (b8 = false ∨ (b8 = true ∧ (Hh < 0 ∨ (0 ≤ Hh ∧ 23 < Hh) ∨ ((0 ≤ Hh ∧ Hh ≤ 23) ∧ (Mm < 0 ∨ (0 ≤ Mm ∧ 59 < Mm))))))) := by
                    cases b3 <;> cases b5 <;> cases b8 <;> simp at hZ ⊢ <;> omega
                  clear hZ K90 K43 K45 K58 KH KM N1 N2 N3 N4 N5 N6 HN
                  have BB : Below w.heap.size w ((w.alloc (.cells #[.int .i64 0, .int .i64 0, .int .i64 0, .int .i64 0, .int .i64 0, .int .i64 0, .int .i64 0, .int .i64 0] 50)).alloc (.cells #[.int .i64 Y, .int .i64 M, .int .i64 D, .int .i64 h, .int .i64 i, .int .i64 s, .int .i64 (0), .int .i64 (0)] 50)) := ((Below.refl _ _).alloc (Nat.le_refl _) _).alloc (by simp) _
                  rcases hL with ⟨rfl, rfl⟩ | ⟨⟨rfl, _⟩ | ⟨rfl, rfl⟩, rfl | ⟨rfl, hx | ⟨hx, hy⟩ | ⟨⟨hx, hy⟩, hu | ⟨hu, hv⟩⟩⟩⟩
                  all_goals
                    go_wp2
                    refine bodyPost_ret (v := .tuple #[.agg #[.int .i64 0, .int .i64 0, .int .i64 0, .int .i64 0, .int .i64 0, .int .i64 0, .int .i64 0, .int .i64 0], .string (bytes []), .int .i64 3])
                      (by simp [results, Tryz.results12, go_sem, empty_bytes]) rfl ⟨0, 0, 0, 0, 0, 0, 0, 0, [], 3, rfl, RW.out, ?_⟩
                    exact BB
            | true =>
              obtain ⟨g, hg⟩ : ∃ g, figs (l.drop 20) 6 = g := ⟨_, rfl⟩
              have hg6 : g ≤ 6 := by rw [← hg]; exact (figs_le _ _).1
              have HG := Lib.hid hg
              clear hg
              go_wp2
              go_loopw [7, 9, 10] (fun a sc m wr => ∃ j c : Nat, j ≤ g ∧ a = .int .i64 (20 + (j : Int)) ∧ sc = .int .i64 ((10 ^ (8 - j) : Nat) : Int) ∧ m = .int .i64 (j : Int) ∧ wr = (((w.alloc (.cells #[.int .i64 0, .int .i64 0, .int .i64 0, .int .i64 0, .int .i64 0, .int .i64 0, .int .i64 0, .int .i64 0] 50)).alloc (.cells #[.int .i64 Y, .int .i64 M, .int .i64 D, .int .i64 h, .int .i64 i, .int .i64 s, .int .i64 ((nanoN l j)), .int .i64 (0)] 50)).drewN c)) (fun _ _ m _ => 6 - (intOf m).toNat)
              case atStart => exact ⟨0, 0, by omega, rfl, rfl, rfl, by rw [show nanoN l 0 = 0 by simp [nanoN, numOf]]; rfl⟩
              case round =>
                obtain ⟨j, c, hj, rfl, rfl, rfl, rfl⟩ := hrel
                have hnb := nanoN_bd l j (by rw [HG.out]; exact hj)
                have hpb := pow_bd j
                by_cases hlt : j < g
                · obtain ⟨d, hd, d0, d9, hN1⟩ := nano_step l j (by rw [HG.out]; exact hlt)
                  have HD := Lib.hid hd
                  have HN1 := Lib.hid hN1
                  have HPN := Lib.hid (pow_next j (by omega))
                  clear hd hN1
                  obtain ⟨V, hV⟩ : ∃ V, nanoN l j = V := ⟨_, rfl⟩
                  obtain ⟨P, hP⟩ : ∃ P : Int, ((10 ^ (8 - j) : Nat) : Int) = P := ⟨_, rfl⟩
                  rw [hV] at hnb HN1
                  rw [hP] at hpb HN1 HPN
                  rw [hV, hP]
                  clear hV hP
                  obtain ⟨Q, hQ⟩ : ∃ Q : Int, P * d = Q := ⟨_, rfl⟩
                  have hQb : 0 ≤ Q ∧ Q ≤ 900000000 := by rw [← hQ]; exact ⟨Int.mul_nonneg (by omega) d0, by have h1 := Int.mul_le_mul hpb.2 d9 d0 (by omega); omega⟩
                  rw [hQ] at HN1
                  have hlt6 : (j : Int) < 6 := by omega
                  go_wp2_with fail
                  refine (rnum_t (p := 20 + j) (k := 1) HB.out HD.out (by omega) rfl (by omega) (by omega) (by omega)).mono ?_
                  rintro e w' ⟨rfl, rfl⟩
                  go_wp2_with fail
                  go_region_with (go_at_call 19; refine (rnum_t (p := 20 + j) (k := 1) HB.out HD.out (by omega) rfl (by omega) (by omega) (by omega)).mono ?_; rintro e w' ⟨rfl, rfl⟩)
                  all_goals
                    go_wp2
                    go_roundw
                    case rel => exact ⟨j + 1, _, by omega, by go_num, by rw [← HPN.out], by go_num, by rw [HN1.out]⟩
                    case measure => simp [intOf]; omega
                · obtain rfl : j = g := by omega
                  obtain ⟨V, hV⟩ : ∃ V, nanoN l j = V := ⟨_, rfl⟩
                  have HV := Lib.hid hV
                  rw [hV] at hnb
                  rw [hV]
                  clear hV
                  by_cases h0 : j = 0
                  · have RW := Lib.hid (show rp l = wrongR from rp_nano_none HM.out (show nanoR l = none by unfold nanoR; rw [if_pos K46.out, HG.out, if_pos h0]))
                    have HD := Lib.hid (nano_end l j HG.out.symm (by omega))
                    subst h0
                    clear hlt
                    have BB : Below w.heap.size w (((w.alloc (.cells #[.int .i64 0, .int .i64 0, .int .i64 0, .int .i64 0, .int .i64 0, .int .i64 0, .int .i64 0, .int .i64 0] 50)).alloc (.cells #[.int .i64 Y, .int .i64 M, .int .i64 D, .int .i64 h, .int .i64 i, .int .i64 s, .int .i64 (V), .int .i64 (0)] 50)).drewN c) := (((Below.refl _ _).alloc (Nat.le_refl _) _).alloc (by simp) _).trans ((drewN_below _ _).mono (by simp <;> omega))
                    go_wp2_with fail
                    refine (rnum_t (p := 20 + 0) (k := 1) HB.out HD.out (by omega) rfl (by omega) (by omega) (by omega)).mono ?_
                    rintro e w' ⟨rfl, rfl⟩
                    go_wp2
                    refine bodyPost_ret (v := .tuple #[.agg #[.int .i64 0, .int .i64 0, .int .i64 0, .int .i64 0, .int .i64 0, .int .i64 0, .int .i64 0, .int .i64 0], .string (bytes []), .int .i64 3])
                      (by simp [results, Tryz.results12, go_sem, empty_bytes]) rfl ⟨0, 0, 0, 0, 0, 0, 0, 0, [], 3, rfl, RW.out, ?_⟩
                    exact BB
                  · have HN := Lib.hid (show nanoR l = some (V, 20 + j) by unfold nanoR; rw [if_pos K46.out, HG.out, if_neg h0, HV.out])
                    by_cases h6 : j = 6
                    · subst h6
                      clear hlt HV hpb h0
                      obtain ⟨Hh, hHh⟩ : ∃ v, numAt l (20 + 6 + 1) 2 = v := ⟨_, rfl⟩
                      obtain ⟨Mm, hMm⟩ : ∃ v, numAt l (20 + 6 + 4) 2 = v := ⟨_, rfl⟩
                      obtain ⟨b9, hb90⟩ : ∃ v, isAt l (20 + 6) 90 = v := ⟨_, rfl⟩
                      obtain ⟨b3, hb43⟩ : ∃ v, isAt l (20 + 6) 43 = v := ⟨_, rfl⟩
                      obtain ⟨b5, hb45⟩ : ∃ v, isAt l (20 + 6) 45 = v := ⟨_, rfl⟩
                      obtain ⟨b8, hb58⟩ : ∃ v, isAt l (20 + 6 + 3) 58 = v := ⟨_, rfl⟩
                      have hHb := numAt_bd l (20 + 6 + 1) 2 (by omega)
                      have hMb := numAt_bd l (20 + 6 + 4) 2 (by omega)
                      rw [hHh] at hHb
                      rw [hMm] at hMb
                      have K90 := Lib.hid hb90
                      have K43 := Lib.hid hb43
                      have K45 := Lib.hid hb45
                      have K58 := Lib.hid hb58
                      have KH := Lib.hid hHh
                      have KM := Lib.hid hMm
                      clear hHh hMm hb90 hb43 hb45 hb58
                      go_wp2_with fail
                      refine (ris_t (p := 20 + 6) (c := 90) HB.out K90.out (by omega) rfl).mono ?_
                      rintro e w' ⟨rfl, rfl⟩
                      cases b9 with
                      | true =>
                        have hq := isAt_lt K90.out
                        have hq1 : (20 + 6 + 1 : Nat) ≤ B.size := by omega
                        have HQ := rp_yes HM.out HN.out (show zoneR l (20 + 6) = some (0, 20 + 6 + 1) by unfold zoneR; rw [if_pos K90.out]) N1.out N2.out N3.out N4.out N5.out N6.out
                        have HQQ := Lib.hid HQ
                        clear HQ
                        have bw9 : Below w.heap.size w (((w.alloc (.cells #[.int .i64 0, .int .i64 0, .int .i64 0, .int .i64 0, .int .i64 0, .int .i64 0, .int .i64 0, .int .i64 0] 50)).alloc (.cells #[.int .i64 Y, .int .i64 M, .int .i64 D, .int .i64 h, .int .i64 i, .int .i64 s, .int .i64 (V), .int .i64 (0)] 50)).drewN c) := (((Below.refl _ _).alloc (Nat.le_refl _) _).alloc (by simp) _).trans ((drewN_below _ _).mono (by simp <;> omega))
                        go_wp2_with fail
                        refine (rright_any _ _ _ _ _ _ _ _ _).mono ?_
                        rintro e w9 ⟨rfl, hb9⟩
                        have bb9 := bw9.trans (hb9.mono (by simp <;> omega))
                        obtain ⟨hc9, hf9⟩ := bcell hb9
                        have hz9 : w.heap.size + 1 < w9.heap.size := by have := hb9.size; simp at this; omega
                        clear hb9 bw9
                        obtain ⟨r0, r1, r2, r3, r4, r5, r6, r7⟩ : w9.cell? ⟨w.heap.size, 0, none⟩ = some (.int .i64 0) ∧ w9.cell? ⟨w.heap.size, 1, none⟩ = some (.int .i64 0) ∧ w9.cell? ⟨w.heap.size, 2, none⟩ = some (.int .i64 0) ∧ w9.cell? ⟨w.heap.size, 3, none⟩ = some (.int .i64 0) ∧ w9.cell? ⟨w.heap.size, 4, none⟩ = some (.int .i64 0) ∧ w9.cell? ⟨w.heap.size, 5, none⟩ = some (.int .i64 0) ∧ w9.cell? ⟨w.heap.size, 6, none⟩ = some (.int .i64 0) ∧ w9.cell? ⟨w.heap.size, 7, none⟩ = some (.int .i64 0) := by simp [hc9, go_sem]
                        by_cases hr : rightB Y M D h i s (V) (0) = true
                        · have HY := Lib.hid ((HQQ.out).trans (if_pos hr))
                          go_wp2
                          go_region
                          go_wp2
                          refine bodyPost_ret (v := .tuple #[.agg #[.int .i64 Y, .int .i64 M, .int .i64 D, .int .i64 h, .int .i64 i, .int .i64 s, .int .i64 (V), .int .i64 (0)], .string (bytes (l.drop (20 + 6 + 1))), .int .i64 0])
                            (by simp [results, Tryz.results12, go_sem, r0, r1, r2, r3, r4, r5, r6, r7]) rfl ⟨_, _, _, _, _, _, _, _, _, _, rfl, HY.out, ?_⟩
                          exact store8 bb9 _ _ _ _ _ _ _ _
                        · have HY := Lib.hid ((HQQ.out).trans (if_neg hr))
                          have hr' : rightB Y M D h i s (V) (0) = false := by simpa using hr
                          clear hr
                          go_wp2
                          refine bodyPost_ret (v := .tuple #[.agg #[.int .i64 0, .int .i64 0, .int .i64 0, .int .i64 0, .int .i64 0, .int .i64 0, .int .i64 0, .int .i64 0], .string (bytes []), .int .i64 3])
                            (by simp [results, Tryz.results12, go_sem, empty_bytes, r0, r1, r2, r3, r4, r5, r6, r7]) rfl ⟨0, 0, 0, 0, 0, 0, 0, 0, [], 3, rfl, HY.out, ?_⟩
                          have hle := Nat.le_refl w.heap.size
                          exact ((((((((bb9.setCell (p := ⟨w.heap.size, 0, none⟩) hle _).setCell (p := ⟨w.heap.size, 1, none⟩) hle _).setCell (p := ⟨w.heap.size, 2, none⟩) hle _).setCell (p := ⟨w.heap.size, 3, none⟩) hle _).setCell (p := ⟨w.heap.size, 4, none⟩) hle _).setCell (p := ⟨w.heap.size, 5, none⟩) hle _).setCell (p := ⟨w.heap.size, 6, none⟩) hle _).setCell (p := ⟨w.heap.size, 7, none⟩) hle _)
                      | false =>
                        go_wp2_with fail
                        refine (ris_t (p := 20 + 6) (c := 43) HB.out K43.out (by omega) rfl).mono ?_
                        rintro e w' ⟨rfl, rfl⟩
                        go_wp2_with fail
                        refine (ris_t (p := 20 + 6) (c := 45) HB.out K45.out (by omega) rfl).mono ?_
                        rintro e w' ⟨rfl, rfl⟩
                        go_wp2_with fail
                        refine (ris_t (p := 20 + 6 + 3) (c := 58) HB.out K58.out (by omega) rfl).mono ?_
                        rintro e w' ⟨rfl, rfl⟩
                        go_wp2_with fail
                        refine (rnum_t (p := 20 + 6 + 1) (k := 2) HB.out KH.out (by omega) rfl (by omega) (by omega) (by omega)).mono ?_
                        rintro e w' ⟨rfl, rfl⟩
                        go_wp2_with fail
                        refine (rnum_t (p := 20 + 6 + 4) (k := 2) HB.out KM.out (by omega) rfl (by omega) (by omega) (by omega)).mono ?_
                        rintro e w' ⟨rfl, rfl⟩
                        by_cases hZ : (b3 = true ∨ b5 = true) ∧ b8 = true ∧ (0 ≤ Hh ∧ Hh ≤ 23) ∧ (0 ≤ Mm ∧ Mm ≤ 59)
                        · obtain ⟨hs1, rfl, ⟨hh1, hh2⟩, hm1, hm2⟩ := hZ
                          have hq : 20 + 6 + 6 ≤ l.length := by have := numAt_in (l := l) (p := 20 + 6 + 4) (k := 2) (by omega) (by rw [KM.out]; exact hm1); omega
                          have hq1 : (20 + 6 + 6 : Nat) ≤ B.size := by omega
                          have HZ := Lib.hid (show zoneR l (20 + 6) = some (if b5 = true then -(60 * Hh + Mm) else 60 * Hh + Mm, 20 + 6 + 6) by unfold zoneR; rw [if_neg (by rw [K90.out]; decide), KH.out, KM.out, K43.out, K45.out, K58.out, if_pos (by simp only [Bool.and_eq_true, Bool.or_eq_true, decide_eq_true_iff]; exact ⟨⟨⟨hs1, trivial⟩, hh1, hh2⟩, hm1, hm2⟩)])
                          cases b5 with
                          | true =>
                            obtain rfl : b3 = false := by cases b3 with
                              | false => rfl
                              | true => have := isAt_two K43.out; rw [K45.out] at this; cases this
                            have HQQ := Lib.hid (rp_yes (z := -(60 * Hh + Mm)) HM.out HN.out (HZ.out) N1.out N2.out N3.out N4.out N5.out N6.out)
                            clear hs1
                            have bw9 : Below w.heap.size w (((w.alloc (.cells #[.int .i64 0, .int .i64 0, .int .i64 0, .int .i64 0, .int .i64 0, .int .i64 0, .int .i64 0, .int .i64 0] 50)).alloc (.cells #[.int .i64 Y, .int .i64 M, .int .i64 D, .int .i64 h, .int .i64 i, .int .i64 s, .int .i64 (V), .int .i64 (-(60 * Hh + Mm))] 50)).drewN c) := (((Below.refl _ _).alloc (Nat.le_refl _) _).alloc (by simp) _).trans ((drewN_below _ _).mono (by simp <;> omega))
                            go_wp2_with fail
                            refine (rright_any _ _ _ _ _ _ _ _ _).mono ?_
                            rintro e w9 ⟨rfl, hb9⟩
                            have bb9 := bw9.trans (hb9.mono (by simp <;> omega))
                            obtain ⟨hc9, hf9⟩ := bcell hb9
                            have hz9 : w.heap.size + 1 < w9.heap.size := by have := hb9.size; simp at this; omega
                            clear hb9 bw9
                            obtain ⟨r0, r1, r2, r3, r4, r5, r6, r7⟩ : w9.cell? ⟨w.heap.size, 0, none⟩ = some (.int .i64 0) ∧ w9.cell? ⟨w.heap.size, 1, none⟩ = some (.int .i64 0) ∧ w9.cell? ⟨w.heap.size, 2, none⟩ = some (.int .i64 0) ∧ w9.cell? ⟨w.heap.size, 3, none⟩ = some (.int .i64 0) ∧ w9.cell? ⟨w.heap.size, 4, none⟩ = some (.int .i64 0) ∧ w9.cell? ⟨w.heap.size, 5, none⟩ = some (.int .i64 0) ∧ w9.cell? ⟨w.heap.size, 6, none⟩ = some (.int .i64 0) ∧ w9.cell? ⟨w.heap.size, 7, none⟩ = some (.int .i64 0) := by simp [hc9, go_sem]
                            by_cases hr : rightB Y M D h i s (V) (-(60 * Hh + Mm)) = true
                            · have HY := Lib.hid ((HQQ.out).trans (if_pos hr))
                              go_wp2
                              go_region
                              go_wp2
                              refine bodyPost_ret (v := .tuple #[.agg #[.int .i64 Y, .int .i64 M, .int .i64 D, .int .i64 h, .int .i64 i, .int .i64 s, .int .i64 (V), .int .i64 (-(60 * Hh + Mm))], .string (bytes (l.drop (20 + 6 + 6))), .int .i64 0])
                                (by simp [results, Tryz.results12, go_sem, r0, r1, r2, r3, r4, r5, r6, r7]) rfl ⟨_, _, _, _, _, _, _, _, _, _, rfl, HY.out, ?_⟩
                              exact store8 bb9 _ _ _ _ _ _ _ _
                            · have HY := Lib.hid ((HQQ.out).trans (if_neg hr))
                              have hr' : rightB Y M D h i s (V) (-(60 * Hh + Mm)) = false := by simpa using hr
                              clear hr
                              go_wp2
                              refine bodyPost_ret (v := .tuple #[.agg #[.int .i64 0, .int .i64 0, .int .i64 0, .int .i64 0, .int .i64 0, .int .i64 0, .int .i64 0, .int .i64 0], .string (bytes []), .int .i64 3])
                                (by simp [results, Tryz.results12, go_sem, empty_bytes, r0, r1, r2, r3, r4, r5, r6, r7]) rfl ⟨0, 0, 0, 0, 0, 0, 0, 0, [], 3, rfl, HY.out, ?_⟩
                              have hle := Nat.le_refl w.heap.size
                              exact ((((((((bb9.setCell (p := ⟨w.heap.size, 0, none⟩) hle _).setCell (p := ⟨w.heap.size, 1, none⟩) hle _).setCell (p := ⟨w.heap.size, 2, none⟩) hle _).setCell (p := ⟨w.heap.size, 3, none⟩) hle _).setCell (p := ⟨w.heap.size, 4, none⟩) hle _).setCell (p := ⟨w.heap.size, 5, none⟩) hle _).setCell (p := ⟨w.heap.size, 6, none⟩) hle _).setCell (p := ⟨w.heap.size, 7, none⟩) hle _)
                          | false =>
                            obtain rfl : b3 = true := hs1.resolve_right Bool.false_ne_true
                            have HQQ := Lib.hid (rp_yes (z := 60 * Hh + Mm) HM.out HN.out (HZ.out) N1.out N2.out N3.out N4.out N5.out N6.out)
                            clear hs1
                            have bw9 : Below w.heap.size w (((w.alloc (.cells #[.int .i64 0, .int .i64 0, .int .i64 0, .int .i64 0, .int .i64 0, .int .i64 0, .int .i64 0, .int .i64 0] 50)).alloc (.cells #[.int .i64 Y, .int .i64 M, .int .i64 D, .int .i64 h, .int .i64 i, .int .i64 s, .int .i64 (V), .int .i64 (60 * Hh + Mm)] 50)).drewN c) := (((Below.refl _ _).alloc (Nat.le_refl _) _).alloc (by simp) _).trans ((drewN_below _ _).mono (by simp <;> omega))
                            go_wp2_with fail
                            refine (rright_any _ _ _ _ _ _ _ _ _).mono ?_
                            rintro e w9 ⟨rfl, hb9⟩
                            have bb9 := bw9.trans (hb9.mono (by simp <;> omega))
                            obtain ⟨hc9, hf9⟩ := bcell hb9
                            have hz9 : w.heap.size + 1 < w9.heap.size := by have := hb9.size; simp at this; omega
                            clear hb9 bw9
                            obtain ⟨r0, r1, r2, r3, r4, r5, r6, r7⟩ : w9.cell? ⟨w.heap.size, 0, none⟩ = some (.int .i64 0) ∧ w9.cell? ⟨w.heap.size, 1, none⟩ = some (.int .i64 0) ∧ w9.cell? ⟨w.heap.size, 2, none⟩ = some (.int .i64 0) ∧ w9.cell? ⟨w.heap.size, 3, none⟩ = some (.int .i64 0) ∧ w9.cell? ⟨w.heap.size, 4, none⟩ = some (.int .i64 0) ∧ w9.cell? ⟨w.heap.size, 5, none⟩ = some (.int .i64 0) ∧ w9.cell? ⟨w.heap.size, 6, none⟩ = some (.int .i64 0) ∧ w9.cell? ⟨w.heap.size, 7, none⟩ = some (.int .i64 0) := by simp [hc9, go_sem]
                            by_cases hr : rightB Y M D h i s (V) (60 * Hh + Mm) = true
                            · have HY := Lib.hid ((HQQ.out).trans (if_pos hr))
                              go_wp2
                              go_region
                              go_wp2
                              refine bodyPost_ret (v := .tuple #[.agg #[.int .i64 Y, .int .i64 M, .int .i64 D, .int .i64 h, .int .i64 i, .int .i64 s, .int .i64 (V), .int .i64 (60 * Hh + Mm)], .string (bytes (l.drop (20 + 6 + 6))), .int .i64 0])
                                (by simp [results, Tryz.results12, go_sem, r0, r1, r2, r3, r4, r5, r6, r7]) rfl ⟨_, _, _, _, _, _, _, _, _, _, rfl, HY.out, ?_⟩
                              exact store8 bb9 _ _ _ _ _ _ _ _
                            · have HY := Lib.hid ((HQQ.out).trans (if_neg hr))
                              have hr' : rightB Y M D h i s (V) (60 * Hh + Mm) = false := by simpa using hr
                              clear hr
                              go_wp2
                              refine bodyPost_ret (v := .tuple #[.agg #[.int .i64 0, .int .i64 0, .int .i64 0, .int .i64 0, .int .i64 0, .int .i64 0, .int .i64 0, .int .i64 0], .string (bytes []), .int .i64 3])
                                (by simp [results, Tryz.results12, go_sem, empty_bytes, r0, r1, r2, r3, r4, r5, r6, r7]) rfl ⟨0, 0, 0, 0, 0, 0, 0, 0, [], 3, rfl, HY.out, ?_⟩
                              have hle := Nat.le_refl w.heap.size
                              exact ((((((((bb9.setCell (p := ⟨w.heap.size, 0, none⟩) hle _).setCell (p := ⟨w.heap.size, 1, none⟩) hle _).setCell (p := ⟨w.heap.size, 2, none⟩) hle _).setCell (p := ⟨w.heap.size, 3, none⟩) hle _).setCell (p := ⟨w.heap.size, 4, none⟩) hle _).setCell (p := ⟨w.heap.size, 5, none⟩) hle _).setCell (p := ⟨w.heap.size, 6, none⟩) hle _).setCell (p := ⟨w.heap.size, 7, none⟩) hle _)
                        · have RW := Lib.hid (show rp l = wrongR from rp_zone_none HN.out (show zoneR l (20 + 6) = none by unfold zoneR; rw [if_neg (by rw [K90.out]; decide), KH.out, KM.out, K43.out, K45.out, K58.out, if_neg (by simp only [Bool.and_eq_true, Bool.or_eq_true, decide_eq_true_iff]; rintro ⟨⟨⟨a, b⟩, c1, c2⟩, d1, d2⟩; exact hZ ⟨a, b, ⟨c1, c2⟩, d1, d2⟩)]))
                          have hL : (b3 = false ∧ b5 = false) ∨ (((b3 = true ∧ True) ∨ (b3 = false ∧ b5 = true)) ∧ (b8 = false ∨ (b8 = true ∧ (Hh < 0 ∨ (0 ≤ Hh ∧ 23 < Hh) ∨ ((0 ≤ Hh ∧ Hh ≤ 23) ∧ (Mm < 0 ∨ (0 ≤ Mm ∧ 59 < Mm))))))) := by
                            cases b3 <;> cases b5 <;> cases b8 <;> simp at hZ ⊢ <;> omega
                          clear hZ K90 K43 K45 K58 KH KM N1 N2 N3 N4 N5 N6 HN
                          have BB : Below w.heap.size w (((w.alloc (.cells #[.int .i64 0, .int .i64 0, .int .i64 0, .int .i64 0, .int .i64 0, .int .i64 0, .int .i64 0, .int .i64 0] 50)).alloc (.cells #[.int .i64 Y, .int .i64 M, .int .i64 D, .int .i64 h, .int .i64 i, .int .i64 s, .int .i64 (V), .int .i64 (0)] 50)).drewN c) := (((Below.refl _ _).alloc (Nat.le_refl _) _).alloc (by simp) _).trans ((drewN_below _ _).mono (by simp <;> omega))
                          rcases hL with ⟨rfl, rfl⟩ | ⟨⟨rfl, _⟩ | ⟨rfl, rfl⟩, rfl | ⟨rfl, hx | ⟨hx, hy⟩ | ⟨⟨hx, hy⟩, hu | ⟨hu, hv⟩⟩⟩⟩
                          all_goals
                            go_wp2
                            refine bodyPost_ret (v := .tuple #[.agg #[.int .i64 0, .int .i64 0, .int .i64 0, .int .i64 0, .int .i64 0, .int .i64 0, .int .i64 0, .int .i64 0], .string (bytes []), .int .i64 3])
                              (by simp [results, Tryz.results12, go_sem, empty_bytes]) rfl ⟨0, 0, 0, 0, 0, 0, 0, 0, [], 3, rfl, RW.out, ?_⟩
                            exact BB
                    · have HD := Lib.hid (nano_end l j HG.out.symm (by omega))
                      have hj6 : (j : Int) < 6 := by omega
                      have hj0 : ((j : Int) == 0) = false := beq_eq_false_iff_ne.2 (by omega)
                      clear hlt HV hpb h0
                      go_wp2_with fail
                      refine (rnum_t (p := 20 + j) (k := 1) HB.out HD.out (by omega) rfl (by omega) (by omega) (by omega)).mono ?_
                      rintro e w' ⟨rfl, rfl⟩
                      obtain ⟨Hh, hHh⟩ : ∃ v, numAt l (20 + j + 1) 2 = v := ⟨_, rfl⟩
                      obtain ⟨Mm, hMm⟩ : ∃ v, numAt l (20 + j + 4) 2 = v := ⟨_, rfl⟩
                      obtain ⟨b9, hb90⟩ : ∃ v, isAt l (20 + j) 90 = v := ⟨_, rfl⟩
                      obtain ⟨b3, hb43⟩ : ∃ v, isAt l (20 + j) 43 = v := ⟨_, rfl⟩
                      obtain ⟨b5, hb45⟩ : ∃ v, isAt l (20 + j) 45 = v := ⟨_, rfl⟩
                      obtain ⟨b8, hb58⟩ : ∃ v, isAt l (20 + j + 3) 58 = v := ⟨_, rfl⟩
                      have hHb := numAt_bd l (20 + j + 1) 2 (by omega)
                      have hMb := numAt_bd l (20 + j + 4) 2 (by omega)
                      rw [hHh] at hHb
                      rw [hMm] at hMb
                      have K90 := Lib.hid hb90
                      have K43 := Lib.hid hb43
                      have K45 := Lib.hid hb45
                      have K58 := Lib.hid hb58
                      have KH := Lib.hid hHh
                      have KM := Lib.hid hMm
                      clear hHh hMm hb90 hb43 hb45 hb58
                      go_wp2_with fail
                      refine (ris_t (p := 20 + j) (c := 90) HB.out K90.out (by omega) rfl).mono ?_
                      rintro e w' ⟨rfl, rfl⟩
                      cases b9 with
                      | true =>
                        have hq := isAt_lt K90.out
                        have hq1 : (20 + j + 1 : Nat) ≤ B.size := by omega
                        have HQ := rp_yes HM.out HN.out (show zoneR l (20 + j) = some (0, 20 + j + 1) by unfold zoneR; rw [if_pos K90.out]) N1.out N2.out N3.out N4.out N5.out N6.out
                        have HQQ := Lib.hid HQ
                        clear HQ
                        have bw9 : Below w.heap.size w (((w.alloc (.cells #[.int .i64 0, .int .i64 0, .int .i64 0, .int .i64 0, .int .i64 0, .int .i64 0, .int .i64 0, .int .i64 0] 50)).alloc (.cells #[.int .i64 Y, .int .i64 M, .int .i64 D, .int .i64 h, .int .i64 i, .int .i64 s, .int .i64 (V), .int .i64 (0)] 50)).drewN c) := (((Below.refl _ _).alloc (Nat.le_refl _) _).alloc (by simp) _).trans ((drewN_below _ _).mono (by simp <;> omega))
                        go_wp2_with fail
                        refine (rright_any _ _ _ _ _ _ _ _ _).mono ?_
                        rintro e w9 ⟨rfl, hb9⟩
                        have bb9 := bw9.trans (hb9.mono (by simp <;> omega))
                        obtain ⟨hc9, hf9⟩ := bcell hb9
                        have hz9 : w.heap.size + 1 < w9.heap.size := by have := hb9.size; simp at this; omega
                        clear hb9 bw9
                        obtain ⟨r0, r1, r2, r3, r4, r5, r6, r7⟩ : w9.cell? ⟨w.heap.size, 0, none⟩ = some (.int .i64 0) ∧ w9.cell? ⟨w.heap.size, 1, none⟩ = some (.int .i64 0) ∧ w9.cell? ⟨w.heap.size, 2, none⟩ = some (.int .i64 0) ∧ w9.cell? ⟨w.heap.size, 3, none⟩ = some (.int .i64 0) ∧ w9.cell? ⟨w.heap.size, 4, none⟩ = some (.int .i64 0) ∧ w9.cell? ⟨w.heap.size, 5, none⟩ = some (.int .i64 0) ∧ w9.cell? ⟨w.heap.size, 6, none⟩ = some (.int .i64 0) ∧ w9.cell? ⟨w.heap.size, 7, none⟩ = some (.int .i64 0) := by simp [hc9, go_sem]
                        by_cases hr : rightB Y M D h i s (V) (0) = true
                        · have HY := Lib.hid ((HQQ.out).trans (if_pos hr))
                          go_wp2
                          go_region
                          go_wp2
                          refine bodyPost_ret (v := .tuple #[.agg #[.int .i64 Y, .int .i64 M, .int .i64 D, .int .i64 h, .int .i64 i, .int .i64 s, .int .i64 (V), .int .i64 (0)], .string (bytes (l.drop (20 + j + 1))), .int .i64 0])
                            (by simp [results, Tryz.results12, go_sem, r0, r1, r2, r3, r4, r5, r6, r7]) rfl ⟨_, _, _, _, _, _, _, _, _, _, rfl, HY.out, ?_⟩
                          exact store8 bb9 _ _ _ _ _ _ _ _
                        · have HY := Lib.hid ((HQQ.out).trans (if_neg hr))
                          have hr' : rightB Y M D h i s (V) (0) = false := by simpa using hr
                          clear hr
                          go_wp2
                          refine bodyPost_ret (v := .tuple #[.agg #[.int .i64 0, .int .i64 0, .int .i64 0, .int .i64 0, .int .i64 0, .int .i64 0, .int .i64 0, .int .i64 0], .string (bytes []), .int .i64 3])
                            (by simp [results, Tryz.results12, go_sem, empty_bytes, r0, r1, r2, r3, r4, r5, r6, r7]) rfl ⟨0, 0, 0, 0, 0, 0, 0, 0, [], 3, rfl, HY.out, ?_⟩
                          have hle := Nat.le_refl w.heap.size
                          exact ((((((((bb9.setCell (p := ⟨w.heap.size, 0, none⟩) hle _).setCell (p := ⟨w.heap.size, 1, none⟩) hle _).setCell (p := ⟨w.heap.size, 2, none⟩) hle _).setCell (p := ⟨w.heap.size, 3, none⟩) hle _).setCell (p := ⟨w.heap.size, 4, none⟩) hle _).setCell (p := ⟨w.heap.size, 5, none⟩) hle _).setCell (p := ⟨w.heap.size, 6, none⟩) hle _).setCell (p := ⟨w.heap.size, 7, none⟩) hle _)
                      | false =>
                        go_wp2_with fail
                        refine (ris_t (p := 20 + j) (c := 43) HB.out K43.out (by omega) rfl).mono ?_
                        rintro e w' ⟨rfl, rfl⟩
                        go_wp2_with fail
                        refine (ris_t (p := 20 + j) (c := 45) HB.out K45.out (by omega) rfl).mono ?_
                        rintro e w' ⟨rfl, rfl⟩
                        go_wp2_with fail
                        refine (ris_t (p := 20 + j + 3) (c := 58) HB.out K58.out (by omega) rfl).mono ?_
                        rintro e w' ⟨rfl, rfl⟩
                        go_wp2_with fail
                        refine (rnum_t (p := 20 + j + 1) (k := 2) HB.out KH.out (by omega) rfl (by omega) (by omega) (by omega)).mono ?_
                        rintro e w' ⟨rfl, rfl⟩
                        go_wp2_with fail
                        refine (rnum_t (p := 20 + j + 4) (k := 2) HB.out KM.out (by omega) rfl (by omega) (by omega) (by omega)).mono ?_
                        rintro e w' ⟨rfl, rfl⟩
                        by_cases hZ : (b3 = true ∨ b5 = true) ∧ b8 = true ∧ (0 ≤ Hh ∧ Hh ≤ 23) ∧ (0 ≤ Mm ∧ Mm ≤ 59)
                        · obtain ⟨hs1, rfl, ⟨hh1, hh2⟩, hm1, hm2⟩ := hZ
                          have hq : 20 + j + 6 ≤ l.length := by have := numAt_in (l := l) (p := 20 + j + 4) (k := 2) (by omega) (by rw [KM.out]; exact hm1); omega
                          have hq1 : (20 + j + 6 : Nat) ≤ B.size := by omega
                          have HZ := Lib.hid (show zoneR l (20 + j) = some (if b5 = true then -(60 * Hh + Mm) else 60 * Hh + Mm, 20 + j + 6) by unfold zoneR; rw [if_neg (by rw [K90.out]; decide), KH.out, KM.out, K43.out, K45.out, K58.out, if_pos (by simp only [Bool.and_eq_true, Bool.or_eq_true, decide_eq_true_iff]; exact ⟨⟨⟨hs1, trivial⟩, hh1, hh2⟩, hm1, hm2⟩)])
                          cases b5 with
                          | true =>
                            obtain rfl : b3 = false := by cases b3 with
                              | false => rfl
                              | true => have := isAt_two K43.out; rw [K45.out] at this; cases this
                            have HQQ := Lib.hid (rp_yes (z := -(60 * Hh + Mm)) HM.out HN.out (HZ.out) N1.out N2.out N3.out N4.out N5.out N6.out)
                            clear hs1
                            have bw9 : Below w.heap.size w (((w.alloc (.cells #[.int .i64 0, .int .i64 0, .int .i64 0, .int .i64 0, .int .i64 0, .int .i64 0, .int .i64 0, .int .i64 0] 50)).alloc (.cells #[.int .i64 Y, .int .i64 M, .int .i64 D, .int .i64 h, .int .i64 i, .int .i64 s, .int .i64 (V), .int .i64 (-(60 * Hh + Mm))] 50)).drewN c) := (((Below.refl _ _).alloc (Nat.le_refl _) _).alloc (by simp) _).trans ((drewN_below _ _).mono (by simp <;> omega))
                            go_wp2_with fail
                            refine (rright_any _ _ _ _ _ _ _ _ _).mono ?_
                            rintro e w9 ⟨rfl, hb9⟩
                            have bb9 := bw9.trans (hb9.mono (by simp <;> omega))
                            obtain ⟨hc9, hf9⟩ := bcell hb9
                            have hz9 : w.heap.size + 1 < w9.heap.size := by have := hb9.size; simp at this; omega
                            clear hb9 bw9
                            obtain ⟨r0, r1, r2, r3, r4, r5, r6, r7⟩ : w9.cell? ⟨w.heap.size, 0, none⟩ = some (.int .i64 0) ∧ w9.cell? ⟨w.heap.size, 1, none⟩ = some (.int .i64 0) ∧ w9.cell? ⟨w.heap.size, 2, none⟩ = some (.int .i64 0) ∧ w9.cell? ⟨w.heap.size, 3, none⟩ = some (.int .i64 0) ∧ w9.cell? ⟨w.heap.size, 4, none⟩ = some (.int .i64 0) ∧ w9.cell? ⟨w.heap.size, 5, none⟩ = some (.int .i64 0) ∧ w9.cell? ⟨w.heap.size, 6, none⟩ = some (.int .i64 0) ∧ w9.cell? ⟨w.heap.size, 7, none⟩ = some (.int .i64 0) := by simp [hc9, go_sem]
                            by_cases hr : rightB Y M D h i s (V) (-(60 * Hh + Mm)) = true
                            · have HY := Lib.hid ((HQQ.out).trans (if_pos hr))
                              go_wp2
                              go_region
                              go_wp2
                              refine bodyPost_ret (v := .tuple #[.agg #[.int .i64 Y, .int .i64 M, .int .i64 D, .int .i64 h, .int .i64 i, .int .i64 s, .int .i64 (V), .int .i64 (-(60 * Hh + Mm))], .string (bytes (l.drop (20 + j + 6))), .int .i64 0])
                                (by simp [results, Tryz.results12, go_sem, r0, r1, r2, r3, r4, r5, r6, r7]) rfl ⟨_, _, _, _, _, _, _, _, _, _, rfl, HY.out, ?_⟩
                              exact store8 bb9 _ _ _ _ _ _ _ _
                            · have HY := Lib.hid ((HQQ.out).trans (if_neg hr))
                              have hr' : rightB Y M D h i s (V) (-(60 * Hh + Mm)) = false := by simpa using hr
                              clear hr
                              go_wp2
                              refine bodyPost_ret (v := .tuple #[.agg #[.int .i64 0, .int .i64 0, .int .i64 0, .int .i64 0, .int .i64 0, .int .i64 0, .int .i64 0, .int .i64 0], .string (bytes []), .int .i64 3])
                                (by simp [results, Tryz.results12, go_sem, empty_bytes, r0, r1, r2, r3, r4, r5, r6, r7]) rfl ⟨0, 0, 0, 0, 0, 0, 0, 0, [], 3, rfl, HY.out, ?_⟩
                              have hle := Nat.le_refl w.heap.size
                              exact ((((((((bb9.setCell (p := ⟨w.heap.size, 0, none⟩) hle _).setCell (p := ⟨w.heap.size, 1, none⟩) hle _).setCell (p := ⟨w.heap.size, 2, none⟩) hle _).setCell (p := ⟨w.heap.size, 3, none⟩) hle _).setCell (p := ⟨w.heap.size, 4, none⟩) hle _).setCell (p := ⟨w.heap.size, 5, none⟩) hle _).setCell (p := ⟨w.heap.size, 6, none⟩) hle _).setCell (p := ⟨w.heap.size, 7, none⟩) hle _)
                          | false =>
                            obtain rfl : b3 = true := hs1.resolve_right Bool.false_ne_true
                            have HQQ := Lib.hid (rp_yes (z := 60 * Hh + Mm) HM.out HN.out (HZ.out) N1.out N2.out N3.out N4.out N5.out N6.out)
                            clear hs1
                            have bw9 : Below w.heap.size w (((w.alloc (.cells #[.int .i64 0, .int .i64 0, .int .i64 0, .int .i64 0, .int .i64 0, .int .i64 0, .int .i64 0, .int .i64 0] 50)).alloc (.cells #[.int .i64 Y, .int .i64 M, .int .i64 D, .int .i64 h, .int .i64 i, .int .i64 s, .int .i64 (V), .int .i64 (60 * Hh + Mm)] 50)).drewN c) := (((Below.refl _ _).alloc (Nat.le_refl _) _).alloc (by simp) _).trans ((drewN_below _ _).mono (by simp <;> omega))
                            go_wp2_with fail
                            refine (rright_any _ _ _ _ _ _ _ _ _).mono ?_
                            rintro e w9 ⟨rfl, hb9⟩
                            have bb9 := bw9.trans (hb9.mono (by simp <;> omega))
                            obtain ⟨hc9, hf9⟩ := bcell hb9
                            have hz9 : w.heap.size + 1 < w9.heap.size := by have := hb9.size; simp at this; omega
                            clear hb9 bw9
                            obtain ⟨r0, r1, r2, r3, r4, r5, r6, r7⟩ : w9.cell? ⟨w.heap.size, 0, none⟩ = some (.int .i64 0) ∧ w9.cell? ⟨w.heap.size, 1, none⟩ = some (.int .i64 0) ∧ w9.cell? ⟨w.heap.size, 2, none⟩ = some (.int .i64 0) ∧ w9.cell? ⟨w.heap.size, 3, none⟩ = some (.int .i64 0) ∧ w9.cell? ⟨w.heap.size, 4, none⟩ = some (.int .i64 0) ∧ w9.cell? ⟨w.heap.size, 5, none⟩ = some (.int .i64 0) ∧ w9.cell? ⟨w.heap.size, 6, none⟩ = some (.int .i64 0) ∧ w9.cell? ⟨w.heap.size, 7, none⟩ = some (.int .i64 0) := by simp [hc9, go_sem]
                            by_cases hr : rightB Y M D h i s (V) (60 * Hh + Mm) = true
                            · have HY := Lib.hid ((HQQ.out).trans (if_pos hr))
                              go_wp2
                              go_region
                              go_wp2
                              refine bodyPost_ret (v := .tuple #[.agg #[.int .i64 Y, .int .i64 M, .int .i64 D, .int .i64 h, .int .i64 i, .int .i64 s, .int .i64 (V), .int .i64 (60 * Hh + Mm)], .string (bytes (l.drop (20 + j + 6))), .int .i64 0])
                                (by simp [results, Tryz.results12, go_sem, r0, r1, r2, r3, r4, r5, r6, r7]) rfl ⟨_, _, _, _, _, _, _, _, _, _, rfl, HY.out, ?_⟩
                              exact store8 bb9 _ _ _ _ _ _ _ _
                            · have HY := Lib.hid ((HQQ.out).trans (if_neg hr))
                              have hr' : rightB Y M D h i s (V) (60 * Hh + Mm) = false := by simpa using hr
                              clear hr
                              go_wp2
                              refine bodyPost_ret (v := .tuple #[.agg #[.int .i64 0, .int .i64 0, .int .i64 0, .int .i64 0, .int .i64 0, .int .i64 0, .int .i64 0, .int .i64 0], .string (bytes []), .int .i64 3])
                                (by simp [results, Tryz.results12, go_sem, empty_bytes, r0, r1, r2, r3, r4, r5, r6, r7]) rfl ⟨0, 0, 0, 0, 0, 0, 0, 0, [], 3, rfl, HY.out, ?_⟩
                              have hle := Nat.le_refl w.heap.size
                              exact ((((((((bb9.setCell (p := ⟨w.heap.size, 0, none⟩) hle _).setCell (p := ⟨w.heap.size, 1, none⟩) hle _).setCell (p := ⟨w.heap.size, 2, none⟩) hle _).setCell (p := ⟨w.heap.size, 3, none⟩) hle _).setCell (p := ⟨w.heap.size, 4, none⟩) hle _).setCell (p := ⟨w.heap.size, 5, none⟩) hle _).setCell (p := ⟨w.heap.size, 6, none⟩) hle _).setCell (p := ⟨w.heap.size, 7, none⟩) hle _)
                        · have RW := Lib.hid (show rp l = wrongR from rp_zone_none HN.out (show zoneR l (20 + j) = none by unfold zoneR; rw [if_neg (by rw [K90.out]; decide), KH.out, KM.out, K43.out, K45.out, K58.out, if_neg (by simp only [Bool.and_eq_true, Bool.or_eq_true, decide_eq_true_iff]; rintro ⟨⟨⟨a, b⟩, c1, c2⟩, d1, d2⟩; exact hZ ⟨a, b, ⟨c1, c2⟩, d1, d2⟩)]))
                          have hL : (b3 = false ∧ b5 = false) ∨ (((b3 = true ∧ True) ∨ (b3 = false ∧ b5 = true)) ∧ (b8 = false ∨ (b8 = true ∧ (Hh < 0 ∨ (0 ≤ Hh ∧ 23 < Hh) ∨ ((0 ≤ Hh ∧ Hh ≤ 23) ∧ (Mm < 0 ∨ (0 ≤ Mm ∧ 59 < Mm))))))) := by
                            cases b3 <;> cases b5 <;> cases b8 <;> simp at hZ ⊢ <;> omega
                          clear hZ K90 K43 K45 K58 KH KM N1 N2 N3 N4 N5 N6 HN
                          have BB : Below w.heap.size w (((w.alloc (.cells #[.int .i64 0, .int .i64 0, .int .i64 0, .int .i64 0, .int .i64 0, .int .i64 0, .int .i64 0, .int .i64 0] 50)).alloc (.cells #[.int .i64 Y, .int .i64 M, .int .i64 D, .int .i64 h, .int .i64 i, .int .i64 s, .int .i64 (V), .int .i64 (0)] 50)).drewN c) := (((Below.refl _ _).alloc (Nat.le_refl _) _).alloc (by simp) _).trans ((drewN_below _ _).mono (by simp <;> omega))
                          rcases hL with ⟨rfl, rfl⟩ | ⟨⟨rfl, _⟩ | ⟨rfl, rfl⟩, rfl | ⟨rfl, hx | ⟨hx, hy⟩ | ⟨⟨hx, hy⟩, hu | ⟨hu, hv⟩⟩⟩⟩
                          all_goals
                            go_wp2
                            refine bodyPost_ret (v := .tuple #[.agg #[.int .i64 0, .int .i64 0, .int .i64 0, .int .i64 0, .int .i64 0, .int .i64 0, .int .i64 0, .int .i64 0], .string (bytes []), .int .i64 3])
                              (by simp [results, Tryz.results12, go_sem, empty_bytes]) rfl ⟨0, 0, 0, 0, 0, 0, 0, 0, [], 3, rfl, RW.out, ?_⟩
                            exact BB
end Go.Proofs.YtmmghppjhmdikaaGreatDoor.Cal
