/- The texts Behind, Sign, Near, ElemLists, one behind the other. -/
import Derived.Test.YtmmghppjhmdikaaGreatDoorAF12
import Derived.Test.YtmmghppjhmdikaaGreatDoorAF4
/- What sysl.behindElements answers of every text, and sysl.origin of the text 0. -/
namespace Go.Proofs.YtmmghppjhmdikaaGreatDoor
open Go.ChangeShapes Go.WideShapes Go.ChangeAt Go.RowKit

/-- The text that stands behind the elements, and whether it may. -/
def behindL (l : List UInt8) : List UInt8 × Bool :=
  if l = [] then ([], true) else
    (Lib.trimPrefix (Lib.trimPrefix l [32]) [239, 187, 191], Lib.hasPrefix l [32] && (Lib.hasPrefix (Lib.trimPrefix l [32]) [239, 187, 191] || decide (Lib.trimPrefix (Lib.trimPrefix l [32]) [239, 187, 191] ≠ [])))
theorem bytes_empty (l : List UInt8) : (bytes l).toList.isEmpty = decide (l = []) := by
  rw [Lib.toList_data, bytes_list]; cases l <;> simp

set_option maxHeartbeats 1000000 in
set_option maxRecDepth 100000 in
theorem behind_any (l : List UInt8) (w : World) : Calls Tryz.prog 34 #[.string (bytes l)] w fun e w' => e = .returned (.tuple #[.string (bytes (behindL l).1), .bool (behindL l).2]) ∧ w' = w := by
  have hq := bytes_empty l
  by_cases hl : l = []
  · rw [decide_eq_true hl] at hq
    have HL := Lib.hid hl
    clear hl
    go_enter Tryz.func34, Tryz.ntmps34
    go_wp2
    go_ret2
    refine ⟨?_, rfl⟩
    unfold behindL
    rw [if_pos HL.out]
    rfl
  · rw [decide_eq_false hl] at hq
    have HL := Lib.hid hl
    have h := Tryz.strings_CutPrefix (bytes l) ⟨#[32]⟩ w
    have k := Tryz.strings_CutPrefix (bytes (Lib.trimPrefix l [32])) ⟨#[239, 187, 191]⟩ w
    rw [bytes_list, show (⟨#[32]⟩ : ByteArray).data.toList = [32] from rfl] at h
    rw [bytes_list, show (⟨#[239, 187, 191]⟩ : ByteArray).data.toList = [239, 187, 191] from rfl] at k
    have hb : behindL l = (Lib.trimPrefix (Lib.trimPrefix l [32]) [239, 187, 191], Lib.hasPrefix l [32] && (Lib.hasPrefix (Lib.trimPrefix l [32]) [239, 187, 191] || decide (Lib.trimPrefix (Lib.trimPrefix l [32]) [239, 187, 191] ≠ []))) := by unfold behindL; rw [if_neg hl]
    rw [hb]
    clear hb hl
    obtain ⟨p1, hp1⟩ : ∃ p, Lib.hasPrefix l [32] = p := ⟨_, rfl⟩
    obtain ⟨m, hm⟩ : ∃ p, Lib.trimPrefix l [32] = p := ⟨_, rfl⟩
    rw [hp1, hm] at h ⊢
    rw [hm] at k
    obtain ⟨p2, hp2⟩ : ∃ p, Lib.hasPrefix m [239, 187, 191] = p := ⟨_, rfl⟩
    obtain ⟨t, ht⟩ : ∃ p, Lib.trimPrefix m [239, 187, 191] = p := ⟨_, rfl⟩
    rw [hp2, ht] at k ⊢
    have hq2 := bytes_empty t
    have H := Lib.hid h
    have K := Lib.hid k
    clear h k hp1 hm hp2 ht
    obtain ⟨q, hqq⟩ : ∃ q, decide (t = []) = q := ⟨_, rfl⟩
    have hnq : decide (t ≠ []) = !q := by rw [← hqq]; simp
    rw [hqq] at hq2
    rw [hnq]
    have hqt : t.isEmpty = q := by rw [← hqq]; cases t <;> simp
    have HQT := Lib.hid hqt
    clear hqq hnq hqt
    cases p1 <;> cases p2 <;> cases q <;>
    · go_enter Tryz.func34, Tryz.ntmps34
      go_wp2_with fail
      refine H.out.mono ?_
      rintro e w' ⟨rfl, rfl⟩
      go_wp2_with fail
      refine K.out.mono ?_
      rintro e w' ⟨rfl, rfl⟩
      go_wp2
      go_ret2
      first
        | exact ⟨rfl, rfl⟩
        | (refine ⟨?_, rfl⟩; simp [HQT.out, bytes])

theorem dec0 : Lib.decDigits 0 = [48] := Lib.decDigits_one (by decide)
theorem origin_0 (w : World) : Calls Tryz.prog 31 #[.string (bytes [48])] w fun e w' => e = .returned (.tuple #[.int .i64 0, .int .i64 0, .bool true]) ∧ Below w.heap.size w w' := by
  have HA := Lib.hid (Tryz.strconv_Atoi (bytes [48]) 0 (by decide) (by decide) w)
  have HI := Lib.hid (fun W => Tryz.strconv_Itoa_small 0 (by decide) W)
  have hq : (bytes [48]).toList = [48] := by rw [Lib.toList_data]; rfl
  rw [dec0] at HI
  go_enter Tryz.func31, Tryz.ntmps31
  go_wp2_with fail
  refine HA.out.mono ?_
  rintro e w2 ⟨rfl, t, rfl⟩
  have hb := bytesWorld_below w 5 t
  generalize Lib.bytesWorld w 5 t = w2 at hb ⊢
  go_wp2_with fail
  refine (HI.out _).mono ?_
  rintro e w3 ⟨rfl, rfl⟩
  go_wp2
  refine bodyPost_ret (v := .tuple #[.int .i64 0, .int .i64 0, .bool true]) (by simp [results, Tryz.results31, go_sem]) rfl ⟨rfl, hb⟩
end Go.Proofs.YtmmghppjhmdikaaGreatDoor
/- What the two closures of sysl.element answer: the one takes off just these bytes, the other all that a name goes up to (given what the library's IndexAny answers of that text). -/
namespace Go.Proofs.YtmmghppjhmdikaaGreatDoor
open Go.ChangeShapes Go.WideShapes Go.ChangeAt Go.RowKit

set_option maxHeartbeats 1000000 in
set_option maxRecDepth 100000 in
theorem sign_any (sep : ByteArray) (r : List UInt8) (b : Nat) (w : World) (hc : w.cell? ⟨b, 0, none⟩ = some (.string (bytes r))) (hf : w.frozen? ⟨b, 0, none⟩ = false) :
    Calls Tryz.prog 70 #[.string sep, .pointer (some ⟨b, 0, none⟩)] w fun e w' => e = .returned (.bool (Lib.hasPrefix r sep.data.toList)) ∧ w' = w.setCell ⟨b, 0, none⟩ (.string (bytes (Lib.trimPrefix r sep.data.toList))) := by
  have h := Tryz.strings_CutPrefix (bytes r) sep w
  rw [bytes_list] at h
  have H := Lib.hid h
  clear h
  go_enter Tryz.func70, Tryz.ntmps70
  go_wp2_with fail
  refine H.out.mono ?_
  rintro e w' ⟨rfl, rfl⟩
  go_wp2
  go_ret
  exact ⟨rfl, rfl⟩

/-- Where a name ends. -/
def nameAt (r : List UInt8) : Nat := r.findIdx fun b => [61, 93, 34, 32].contains b
theorem indexAny_find (ends : List UInt8) : ∀ l : List UInt8, Lib.indexAny l ends = if l.findIdx (fun b => ends.contains b) < l.length then ((l.findIdx fun b => ends.contains b : Nat) : Int) else -1
  | [] => rfl
  | b :: l => by
    rw [Lib.indexAny, indexAny_find ends l, List.findIdx_cons]
    by_cases hb : ends.contains b = true
    · rw [if_pos hb, hb]; simp
    · rw [if_neg hb, Bool.not_eq_true _ |>.mp hb]
      simp only [cond_false, List.length_cons, Nat.add_lt_add_iff_right]
      split
      · rw [if_neg (by simp; try omega)]; try simp
      · simp

set_option maxHeartbeats 1000000 in
set_option maxRecDepth 100000 in
theorem name_of (r : List UInt8) (b : Nat) (w : World) (hb : b < w.heap.size) (hc : w.cell? ⟨b, 0, none⟩ = some (.string (bytes r))) (hf : w.frozen? ⟨b, 0, none⟩ = false)
    (CI : Calls Tryz.prog 72 #[.string (bytes r), .string ⟨#[61, 93, 34, 32]⟩] w fun e w' => e = .returned (.int .i64 (Lib.indexAny r [61, 93, 34, 32])) ∧ Below w.heap.size w w') :
    Calls Tryz.prog 71 #[.pointer (some ⟨b, 0, none⟩)] w fun e w' => e = .returned (.string (bytes (r.take (nameAt r)))) ∧ ∃ W, Below w.heap.size w W ∧ w' = W.setCell ⟨b, 0, none⟩ (.string (bytes (r.drop (nameAt r)))) := by
  rw [indexAny_find] at CI
  have hn : nameAt r ≤ r.length := List.findIdx_le_length
  have hdef : (r.findIdx fun b => [61, 93, 34, 32].contains b) = nameAt r := rfl
  rw [hdef] at CI
  clear hdef
  generalize nameAt r = n at *
  have hz : (bytes r).size = r.length := bytes_size r
  have HZ := Lib.hid hz
  have HD := Lib.hid (show (bytes r).extract n (bytes r).size = bytes (r.drop n) by rw [drop_bytes, bytes_list])
  have HT := Lib.hid (show (bytes r).extract 0 n = bytes (r.take n) by rw [Lib.extract_eq, bytes_list]; simp; rfl)
  by_cases hlt : n < r.length
  · rw [if_pos hlt] at CI
    have H := Lib.hid CI
    clear CI
    go_enter Tryz.func71, Tryz.ntmps71
    go_wp2_with fail
    refine H.out.mono ?_
    rintro e w1 ⟨rfl, hB⟩
    have hc1 := ((bcell hB).1 b 0 hb).trans hc
    have hf1 := ((bcell hB).2 b 0 hb).trans hf
    have HB := Lib.hid hB
    clear hB hc hf
    go_wp2
    go_ret
    refine ⟨?_, w1, HB.out, ?_⟩
    · show _ = Ending.returned (.string (bytes (r.take n)))
      rw [← HT.out]; rfl
    · rw [← HD.out, HZ.out]
  · rw [if_neg hlt] at CI
    obtain rfl : n = r.length := by omega
    have H := Lib.hid CI
    clear CI
    go_enter Tryz.func71, Tryz.ntmps71
    go_wp2_with fail
    refine H.out.mono ?_
    rintro e w1 ⟨rfl, hB⟩
    have hc1 := ((bcell hB).1 b 0 hb).trans hc
    have hf1 := ((bcell hB).2 b 0 hb).trans hf
    have HB := Lib.hid hB
    clear hB hc hf
    go_wp2
    go_ret
    refine ⟨?_, w1, HB.out, ?_⟩
    · show _ = Ending.returned (.string (bytes (r.take r.length)))
      rw [← HT.out]; rfl
    · rw [List.drop_length]; rfl
end Go.Proofs.YtmmghppjhmdikaaGreatDoor
/- What the library's IndexAny answers of the four signs that end a name, where one of them stands behind plain bytes alone. -/
namespace Go.Proofs.YtmmghppjhmdikaaGreatDoor
open Go.ChangeShapes Go.WideShapes Go.ChangeAt Go.RowKit

abbrev nameEnds : ByteArray := ⟨#[61, 93, 34, 32]⟩
theorem iter_below (w : World) (s : ByteArray) (k : Nat) : Below w.heap.size w (w.iter s k) := by
  unfold World.iter
  exact (Below.refl _ _).alloc (Nat.le_refl _) _
set_option maxRecDepth 100000 in
theorem rune_near (c : Int) (w : World) (h0 : 0 ≤ c) (h1 : c < 128) :
    Calls Tryz.prog 95 #[.string nameEnds, .int .i32 c] w fun e w' => e = .returned (.int .i64 (Lib.indexByte [61, 93, 34, 32] c.toNat.toUInt8)) ∧ w' = w :=
  Any.strings_IndexRune_ascii { Tryz.lays150 with } nameEnds c w h0 h1
set_option maxRecDepth 100000 in
theorem should_near (n : Int) (w : World) : Calls Tryz.prog 96 #[.int .i64 n] w fun e w' => e = .returned (.bool (decide (8 < n))) ∧ w' = w :=
  Any.strings_shouldUseASCIISet { Tryz.lays150 with } n w
set_option maxHeartbeats 4000000 in
set_option maxRecDepth 100000 in
theorem any_near (s : ByteArray) (k : Nat) (w : World) (h8 : s.size ≤ 8) (hk : k < s.size) (ha : ∀ (j : Nat) b, j ≤ k → s.data.toList[j]? = some b → b.toNat < 128) (hno : Lib.NoAny s.data.toList [61, 93, 34, 32] k)
    (hit : ∃ x, s.data.toList[k]? = some x ∧ [61, 93, 34, 32].contains x = true) :
    Calls Tryz.prog 72 #[.string s, .string nameEnds] w fun e w' => e = .returned (.int .i64 k) ∧ Below w.heap.size w w' := by
  have HA := Lib.hid ha
  have HN := Lib.hid hno
  have HI := Lib.hid hit
  have h8z : decide ((8 : Int) < (s.size : Int)) = false := decide_eq_false (by omega)
  have HS := Lib.hid (should_near (s.size : Int) w)
  rw [h8z] at HS
  clear ha hno hit h8z
  go_enter Tryz.func72, Tryz.ntmps72
  go_wp2_with fail
  refine HS.out.mono ?_
  rintro e w' ⟨rfl, rfl⟩
  go_wp2
  go_loopg [9, 10] s.size (fun g _ _ wx => ∃ i : Nat, i ≤ k ∧ i + g = s.size ∧ wx = w'.iter s i)
  case atStart => exact ⟨0, by omega, by omega, rfl⟩
  case round =>
    obtain ⟨i, hik, hig, rfl⟩ := hrel
    cases gk with
    | zero => omega
    | succ g =>
      have hi : i < s.size := by omega
      obtain ⟨x, hx⟩ : ∃ x : UInt8, s[i]'hi = x := ⟨_, rfl⟩
      have hxl : s.data.toList[i]? = some x := by rw [← hx]; exact Lib.data_getElem? s i hi
      have hx128 : x.toNat < 128 := HA.out i x hik hxl
      have hnx := fun ty => run_next_ascii (P := Tryz.prog) w' s i ty hi (by rw [hx]; exact hx128)
      rw [hx] at hnx
      have HR := Lib.hid (fun W => rune_near ((x.toNat : Nat) : Int) W (by omega) (by omega))
      have hback : ((x.toNat : Int)).toNat.toUInt8 = x := by simp
      rw [hback] at HR
      have hcon := Lib.contains_iff_indexByte [61, 93, 34, 32] x
      have HX := Lib.hid hxl
      clear hxl hx hback
      by_cases hk2 : i = k
      · subst hk2
        obtain ⟨x', hx', hin⟩ := HI.out
        rw [HX.out] at hx'
        cases hx'
        rw [hin] at hcon
        have hge : (0 : Int) ≤ Lib.indexByte [61, 93, 34, 32] x := of_decide_eq_true hcon.symm
        generalize Lib.indexByte [61, 93, 34, 32] x = q at *
        clear hcon hin
        go_wp2_with fail
        refine (HR.out _).mono ?_
        rintro e w2 ⟨rfl, rfl⟩
        go_wp2
        go_ret
        exact ⟨rfl, iter_below _ _ _⟩
      · have hin := HN.out i x (by omega) HX.out
        rw [hin] at hcon
        have hlt : ¬ (0 : Int) ≤ Lib.indexByte [61, 93, 34, 32] x := of_decide_eq_false hcon.symm
        generalize Lib.indexByte [61, 93, 34, 32] x = q at *
        clear hcon hin
        go_wp2_with fail
        refine (HR.out _).mono ?_
        rintro e w2 ⟨rfl, rfl⟩
        go_wp2
        go_roundg g
        case measure => omega
        case rel => exact ⟨i + 1, by omega, by omega, rfl⟩

theorem info116 : (Tryz.prog.info? (Tryz.lays150_ren.t 116)).map (fun i => (i.zero, i.size)) = some (some (.agg (Array.replicate 256 (.bool false))), 256) := by kernel_rfl
theorem ends_plain : ∀ (j : Nat) b, nameEnds.data.toList[j]? = some b → b.toNat < 128 := by
  intro j b hb
  have hm : b ∈ [(61 : UInt8), 93, 34, 32] := List.mem_of_getElem? hb
  simp at hm
  rcases hm with rfl | rfl | rfl | rfl <;> decide
set_option maxRecDepth 100000 in
theorem any_far (s : ByteArray) (w : World) (h8 : 8 < s.size) (hs : s.size < 4294967281) :
    Calls Tryz.prog 72 #[.string s, .string nameEnds] w fun e w' => e = .returned (.int .i64 (Lib.indexAny s.data.toList [61, 93, 34, 32])) ∧ Below w.heap.size w w' := by
  refine (Any.strings_IndexAny_long { Tryz.lays150 with } (zero_of_info info116).1 (zero_of_info info116).2 s nameEnds w (by decide) h8 hs (by decide) ends_plain).mono ?_
  rintro e w' ⟨rfl, rfl⟩
  exact ⟨rfl, ((Below.refl _ _).alloc (Nat.le_refl _) _).alloc (by simp) _⟩

/-- IndexAny of the four signs, in a text in which one of them stands at k, behind plain bytes alone. -/
theorem any_ends (r : List UInt8) (k : Nat) (x : UInt8) (w : World) (hr : r.length < 4294967281) (hx : r[k]? = some x) (hin : [61, 93, 34, 32].contains x = true) (hno : Lib.NoAny r [61, 93, 34, 32] k) (ha : ∀ (j : Nat) b, j ≤ k → r[j]? = some b → b.toNat < 128) :
    Calls Tryz.prog 72 #[.string (bytes r), .string nameEnds] w fun e w' => e = .returned (.int .i64 (Lib.indexAny r [61, 93, 34, 32])) ∧ Below w.heap.size w w' := by
  by_cases h8 : 8 < r.length
  · have h := any_far (bytes r) w (by rw [bytes_size]; exact h8) (by rw [bytes_size]; exact hr)
    rw [bytes_list] at h
    exact h
  · have hk : k < r.length := (List.getElem?_eq_some_iff.1 hx).1
    have h := any_near (bytes r) k w (by rw [bytes_size]; omega) (by rw [bytes_size]; exact hk) (by rw [bytes_list]; exact ha) (by rw [bytes_list]; exact hno) ⟨x, by rw [bytes_list]; exact hx, hin⟩
    rw [Lib.indexAny_hit hno hx hin]
    exact h
end Go.Proofs.YtmmghppjhmdikaaGreatDoor
/- The texts of names, parameters and elements, as lists; what element's second closure answers where a name stands ahead. -/
namespace Go.Proofs.YtmmghppjhmdikaaGreatDoor
open Go.ChangeShapes Go.WideShapes Go.ChangeAt Go.RowKit

theorem no_any {l chars : List UInt8} (h : Lib.containsAny l chars = false) : ∀ b ∈ l, chars.contains b = false := by
  intro b hb
  cases hc : chars.contains b with
  | false => rfl
  | true =>
    exfalso
    unfold Lib.containsAny at h
    rw [indexAny_find] at h
    have hlt := List.findIdx_lt_length_of_exists (p := fun b => chars.contains b) ⟨b, hb, hc⟩
    rw [if_pos hlt] at h
    have := of_decide_eq_false h
    omega
theorem name_bytes {l : List UInt8} (h : nameB l = true) (b : UInt8) (hb : b ∈ l) : [61, 93, 34, 32].contains b = false ∧ b.toNat < 128 := by
  unfold nameB at h
  rw [Bool.and_eq_true, Bool.not_eq_true'] at h
  obtain ⟨hp, hn⟩ := h
  have h1 := no_any hn b hb
  unfold plainB at hp
  rw [Bool.and_eq_true, List.all_eq_true] at hp
  have h2 := of_decide_eq_true (hp.2 b hb)
  refine ⟨?_, by omega⟩
  have h32 : b ≠ 32 := fun h => by rw [h] at h2; revert h2; decide
  simp at h1 ⊢
  exact ⟨h1.1, h1.2.1, h1.2.2, h32⟩
theorem name_get {nm t : List UInt8} {c : UInt8} : (nm ++ c :: t)[nm.length]? = some c := by
  rw [List.getElem?_append_right (Nat.le_refl _)]; simp
theorem name_no {nm t : List UInt8} {c : UInt8} (h : nameB nm = true) : Lib.NoAny (nm ++ c :: t) [61, 93, 34, 32] nm.length := by
  intro j b hj hb
  rw [List.getElem?_append_left hj] at hb
  exact (name_bytes h b (List.mem_of_getElem? hb)).1
theorem name_asc {nm t : List UInt8} {c : UInt8} (h : nameB nm = true) (hc : c.toNat < 128) (j : Nat) (b : UInt8) (hj : j ≤ nm.length) (hb : (nm ++ c :: t)[j]? = some b) : b.toNat < 128 := by
  rcases Nat.lt_or_ge j nm.length with hl | hl
  · rw [List.getElem?_append_left hl] at hb
    exact (name_bytes h b (List.mem_of_getElem? hb)).2
  · obtain rfl : j = nm.length := by omega
    rw [name_get] at hb
    cases hb
    exact hc
theorem nameAt_name {nm t : List UInt8} {c : UInt8} (h : nameB nm = true) (hc : [61, 93, 34, 32].contains c = true) : nameAt (nm ++ c :: t) = nm.length := by
  have hi := Lib.indexAny_hit (name_no (t := t) (c := c) h) name_get hc
  rw [indexAny_find] at hi
  have hd : nameAt (nm ++ c :: t) = (nm ++ c :: t).findIdx fun b => [61, 93, 34, 32].contains b := rfl
  rw [hd]
  split at hi
  · omega
  · omega
/-- element's second closure where a name stands ahead, and one of the four signs behind it. -/
theorem name_good (nm t : List UInt8) (c : UInt8) (b : Nat) (w : World) (hn : nameB nm = true) (hcc : [61, 93, 34, 32].contains c = true) (hl : (nm ++ c :: t).length < 4294967281) (hb : b < w.heap.size)
    (hc : w.cell? ⟨b, 0, none⟩ = some (.string (bytes (nm ++ c :: t)))) (hf : w.frozen? ⟨b, 0, none⟩ = false) :
    Calls Tryz.prog 71 #[.pointer (some ⟨b, 0, none⟩)] w fun e w' => e = .returned (.string (bytes nm)) ∧ ∃ W, Below w.heap.size w W ∧ w' = W.setCell ⟨b, 0, none⟩ (.string (bytes (c :: t))) := by
  have h128 : c.toNat < 128 := by
    have : c = 61 ∨ c = 93 ∨ c = 34 ∨ c = 32 := by simpa using hcc
    rcases this with rfl | rfl | rfl | rfl <;> decide
  have h := name_of (nm ++ c :: t) b w hb hc hf (any_ends _ nm.length c w hl name_get hcc (name_no hn) (name_asc hn h128))
  rw [nameAt_name hn hcc] at h
  rw [List.take_left' rfl, List.drop_left' rfl] at h
  exact h

def prmT (p : Prm) : List UInt8 := 32 :: (p.1.data.toList ++ 61 :: 34 :: (valueL p.2.data.toList ++ [34]))
def prmsT (ps : List Prm) : List UInt8 := ps.flatMap prmT
def elmT (e : Elm) : List UInt8 := 91 :: (e.1.data.toList ++ (prmsT e.2 ++ [93]))
theorem prms_step {ps : List Prm} {k : Nat} {p : Prm} (h : ps[k]? = some p) (t : List UInt8) : prmsT (ps.drop k) ++ 93 :: t = 32 :: (p.1.data.toList ++ 61 :: 34 :: (valueL p.2.data.toList ++ 34 :: (prmsT (ps.drop (k + 1)) ++ 93 :: t))) := by
  obtain ⟨hk, hx⟩ := List.getElem?_eq_some_iff.1 h
  rw [List.drop_eq_getElem_cons hk, hx]
  simp [prmsT, prmT]
theorem prms_end {ps : List Prm} {k : Nat} (h : ps.length ≤ k) (t : List UInt8) : prmsT (ps.drop k) ++ 93 :: t = 93 :: t := by
  rw [List.drop_of_length_le h]; rfl
theorem prms_head (ps : List Prm) (t : List UInt8) : ∃ c r, prmsT ps ++ 93 :: t = c :: r ∧ [61, 93, 34, 32].contains c = true := by
  cases ps with
  | nil => exact ⟨93, t, rfl, rfl⟩
  | cons p ps => exact ⟨32, _, by simpa using prms_step (ps := p :: ps) (k := 0) rfl t, rfl⟩
theorem pre_hit (c : UInt8) (r : List UInt8) : Lib.hasPrefix (c :: r) [c] = true ∧ Lib.trimPrefix (c :: r) [c] = r := by
  have h1 : Lib.hasPrefix (c :: r) [c] = true := by simp [Lib.hasPrefix, List.isPrefixOf]
  exact ⟨h1, by unfold Lib.trimPrefix; rw [h1]; simp⟩
theorem pre_hit2 (c d : UInt8) (r : List UInt8) : Lib.hasPrefix (c :: d :: r) [c, d] = true ∧ Lib.trimPrefix (c :: d :: r) [c, d] = r := by
  have h1 : Lib.hasPrefix (c :: d :: r) [c, d] = true := by simp [Lib.hasPrefix, List.isPrefixOf]
  exact ⟨h1, by unfold Lib.trimPrefix; rw [h1]; simp⟩
theorem pre_miss (c d : UInt8) (r : List UInt8) (h : d ≠ c) : Lib.hasPrefix (d :: r) [c] = false ∧ Lib.trimPrefix (d :: r) [c] = d :: r := by
  have h1 : Lib.hasPrefix (d :: r) [c] = false := by simp [Lib.hasPrefix, List.isPrefixOf]; exact fun e => h e.symm
  exact ⟨h1, by unfold Lib.trimPrefix; rw [h1]; simp⟩
/-- element's first closure, where the sign is next, and where it isn't. -/
theorem sign_is (sep : ByteArray) (r r' : List UInt8) (f : Bool) (b : Nat) (w : World) (hp : Lib.hasPrefix r sep.data.toList = f ∧ Lib.trimPrefix r sep.data.toList = r') (hc : w.cell? ⟨b, 0, none⟩ = some (.string (bytes r))) (hf : w.frozen? ⟨b, 0, none⟩ = false) :
    Calls Tryz.prog 70 #[.string sep, .pointer (some ⟨b, 0, none⟩)] w fun e w' => e = .returned (.bool f) ∧ w' = w.setCell ⟨b, 0, none⟩ (.string (bytes r')) := by
  have h := sign_any sep r b w hc hf
  rw [hp.1, hp.2] at h
  exact h

/-- Parameters as cells. -/
def pcells (ps : List Prm) : List Value := ps.flatMap fun p => [.string p.1, .string p.2]
theorem pcells_push (ps : List Prm) (p : Prm) : pcells (ps ++ [p]) = pcells ps ++ [.string p.1, .string p.2] := by simp [pcells]
theorem pcells_at : ∀ (ps : List Prm) (j : Nat) (p : Prm), ps[j]? = some p → (pcells ps)[2 * j]? = some (.string p.1) ∧ (pcells ps)[2 * j + 1]? = some (.string p.2)
  | [], j, p, h => by simp at h
  | q :: ps, 0, p, h => by cases h; exact ⟨rfl, rfl⟩
  | q :: ps, j + 1, p, h => by
    have := pcells_at ps j p (by simpa using h)
    rw [show 2 * (j + 1) = 2 * j + 2 by omega, show 2 * j + 2 + 1 = (2 * j + 1) + 2 by omega]
    exact this
/-- What element's worlds hold of its variables: its answer, what is left, the list so far. -/
structure EAt (w W : World) (c0 lv : Value) (r : List UInt8) (ps : List Prm) : Prop where
  k0 : W.cell? ⟨w.heap.size, 0, none⟩ = some c0
  k1 : W.cell? ⟨w.heap.size, 1, none⟩ = some lv
  kr : W.cell? ⟨w.heap.size + 1, 0, none⟩ = some (.string (bytes r))
  z : w.heap.size + 1 < W.heap.size
  f0 : ∀ o, W.frozen? ⟨w.heap.size, o, none⟩ = false
  f1 : ∀ o, W.frozen? ⟨w.heap.size + 1, o, none⟩ = false
  b : Below w.heap.size w W
  own : W.ownsRow (w.heap.size + 2) 74 2 lv ps.length (pcells ps)
theorem kept_below {W W' : World} {base : Nat} {e : TypeId} {size n : Nat} {v : Value} {xs : List Value} (h : W.ownsRow base e size v n xs) (hb : Below W.heap.size W W') : W'.ownsRow base e size v n xs :=
  ⟨h.1, by
    rcases h.2 with hn | ⟨g, cap, cur, rfl, h1, hg, rest⟩
    · exact .inl hn
    · exact .inr ⟨g, cap, cur, rfl, h1, (hb.block g (Array.getElem?_eq_some_iff.1 hg).1).trans hg, rest⟩⟩
theorem kept_set {W : World} {base : Nat} {e : TypeId} {size n : Nat} {v : Value} {xs : List Value} (h : W.ownsRow base e size v n xs) (a : Addr) (u : Value) (hne : ∀ g, v.ownBlock = some g → g ≠ a.block) : (W.setCell a u).ownsRow base e size v n xs :=
  ⟨h.1, by
    rcases h.2 with hn | ⟨g, cap, cur, rfl, h1, hg, rest⟩
    · exact .inl hn
    · exact .inr ⟨g, cap, cur, rfl, h1, (Below.heap_setCell W a u g (hne g rfl)).trans hg, rest⟩⟩
variable {w W : World} {c0 lv : Value} {r : List UInt8} {ps : List Prm}
theorem EAt.below {W' : World} (h : EAt w W c0 lv r ps) (hb : Below W.heap.size W W') : EAt w W' c0 lv r ps := by
  have hz := h.z
  have hc : ∀ b o, b < W.heap.size → W'.cell? ⟨b, o, none⟩ = W.cell? ⟨b, o, none⟩ := (bcell hb).1
  have hf : ∀ b o, b < W.heap.size → W'.frozen? ⟨b, o, none⟩ = W.frozen? ⟨b, o, none⟩ := (bcell hb).2
  exact ⟨(hc _ _ (by omega)).trans h.k0, (hc _ _ (by omega)).trans h.k1, (hc _ _ (by omega)).trans h.kr, Nat.lt_of_lt_of_le hz hb.size, fun o => (hf _ _ (by omega)).trans (h.f0 o), fun o => (hf _ _ (by omega)).trans (h.f1 o),
    h.b.trans (hb.mono h.b.size), kept_below h.own hb⟩
theorem EAt.set0 (h : EAt w W c0 lv r ps) (v : Value) : EAt w (W.setCell ⟨w.heap.size, 0, none⟩ v) v lv r ps where
  k0 := by simp [go_sem, h.k0]
  k1 := by simp [go_sem, h.k1]
  kr := by simp [go_sem, h.kr]
  z := by have := h.z; simpa using this
  f0 := fun o => by have := h.f0 o; simpa [go_sem] using this
  f1 := fun o => by have := h.f1 o; simpa [go_sem] using this
  b := h.b.setCell (p := ⟨w.heap.size, 0, none⟩) (Nat.le_refl _) _
  own := kept_set h.own _ _ fun g hg => by have := (h.own.lt g hg).1; simp; omega
theorem EAt.set1 (h : EAt w W c0 lv r ps) : EAt w (W.setCell ⟨w.heap.size, 1, none⟩ lv) c0 lv r ps where
  k0 := by simp [go_sem, h.k0]
  k1 := by simp [go_sem, h.k1]
  kr := by simp [go_sem, h.kr]
  z := by have := h.z; simpa using this
  f0 := fun o => by have := h.f0 o; simpa [go_sem] using this
  f1 := fun o => by have := h.f1 o; simpa [go_sem] using this
  b := h.b.setCell (p := ⟨w.heap.size, 1, none⟩) (Nat.le_refl _) _
  own := kept_set h.own _ _ fun g hg => by have := (h.own.lt g hg).1; simp; omega
theorem EAt.setr (h : EAt w W c0 lv r ps) (r' : List UInt8) : EAt w (W.setCell ⟨w.heap.size + 1, 0, none⟩ (.string (bytes r'))) c0 lv r' ps where
  k0 := by simp [go_sem, h.k0]
  k1 := by simp [go_sem, h.k1]
  kr := by simp [go_sem, h.kr]
  z := by have := h.z; simpa using this
  f0 := fun o => by have := h.f0 o; simpa [go_sem] using this
  f1 := fun o => by have := h.f1 o; simpa [go_sem] using this
  b := h.b.setCell (p := ⟨w.heap.size + 1, 0, none⟩) (by simp) _
  own := kept_set h.own _ _ fun g hg => by have := (h.own.lt g hg).1; simp; omega
theorem EAt.other (h : EAt w W c0 lv r ps) {b o : Nat} (hb : w.heap.size + 2 ≤ b) (hne : ∀ g, lv.ownBlock = some g → g < b) (v : Value) : EAt w (W.setCell ⟨b, o, none⟩ v) c0 lv r ps where
  k0 := by rw [World.cell?_of_block (Below.heap_setCell W _ v _ (by simp; omega))]; exact h.k0
  k1 := by rw [World.cell?_of_block (Below.heap_setCell W _ v _ (by simp; omega))]; exact h.k1
  kr := by rw [World.cell?_of_block (Below.heap_setCell W _ v _ (by simp; omega))]; exact h.kr
  z := by have := h.z; simpa using this
  f0 := fun o' => by rw [World.frozen?_of_block (Below.heap_setCell W _ v _ (by simp; omega))]; exact h.f0 o'
  f1 := fun o' => by rw [World.frozen?_of_block (Below.heap_setCell W _ v _ (by simp; omega))]; exact h.f1 o'
  b := h.b.setCell (p := ⟨b, o, none⟩) (by simp; omega) _
  own := kept_set h.own _ _ fun g hg => by have := hne g hg; simp; omega
theorem EAt.push {w' : World} {v' : Value} {p : Prm} (h : EAt w W c0 lv r ps) (hg : W.grownBy w' lv.ownBlock) (hown : w'.ownsRow (w.heap.size + 2) 74 2 v' (ps.length + 1) (pcells ps ++ [.string p.1, .string p.2])) :
    EAt w (w'.setCell ⟨w.heap.size, 1, none⟩ v') c0 v' r (ps ++ [p]) := by
  have hz := h.z
  have hrow : ∀ k, lv.ownBlock = some k → w.heap.size + 2 ≤ k := fun k hk => (h.own.lt k hk).1
  have hne : ∀ b, b < w.heap.size + 2 → some b ≠ lv.ownBlock := fun b hb he => by have := hrow b he.symm; omega
  have hc : ∀ b o, b < w.heap.size + 2 → w'.cell? ⟨b, o, none⟩ = W.cell? ⟨b, o, none⟩ := fun b o hb => World.cell?_of_block (hg.block b (by omega) (hne b hb))
  have hf : ∀ b o, b < w.heap.size + 2 → w'.frozen? ⟨b, o, none⟩ = W.frozen? ⟨b, o, none⟩ := fun b o hb => World.frozen?_of_block (hg.block b (by omega) (hne b hb))
  have e0 := (hc w.heap.size 0 (by omega)).trans h.k0
  have e1 := (hc w.heap.size 1 (by omega)).trans h.k1
  have er := (hc (w.heap.size + 1) 0 (by omega)).trans h.kr
  refine ⟨by simp [go_sem, e0], by simp [go_sem, e1], by simp [go_sem, er], by have := hg.size; simp; omega, fun o => ?_, fun o => ?_, ?_, ?_⟩
  · have := (hf w.heap.size o (by omega)).trans (h.f0 o); simpa [go_sem] using this
  · have := (hf (w.heap.size + 1) o (by omega)).trans (h.f1 o); simpa [go_sem] using this
  · exact (h.b.grown hg h.b.size fun k hk => by have := hrow k hk; omega).setCell (p := ⟨w.heap.size, 1, none⟩) (Nat.le_refl _) _
  · rw [pcells_push, List.length_append]
    exact kept_set hown _ _ fun g hg' => by have := (hown.lt g hg').1; simp; omega
theorem EAt.grown {w' : World} (h : EAt w W c0 lv r ps) (hg : W.grownBy w' lv.ownBlock) : (∀ o, w'.frozen? ⟨w.heap.size, o, none⟩ = false) ∧ w'.cell? ⟨w.heap.size, 1, none⟩ = some lv := by
  have hz := h.z
  have hne : some w.heap.size ≠ lv.ownBlock := fun he => by have := (h.own.lt _ he.symm).1; omega
  exact ⟨fun o => (World.frozen?_of_block (a := ⟨w.heap.size, o, none⟩) (hg.block w.heap.size (by omega) hne)).trans (h.f0 o), (World.cell?_of_block (a := ⟨w.heap.size, 1, none⟩) (hg.block w.heap.size (by omega) hne)).trans h.k1⟩
/-- The list's value, and what it holds. -/
theorem EAt.prms (h : EAt w W c0 lv r ps) : ∃ la lc, lv = .slice la ps.length lc ∧ ∀ j p, ps[j]? = some p → ∃ b, la = some ⟨b, 0, none⟩ ∧ w.heap.size + 2 ≤ b ∧ b < W.heap.size ∧ W.cell? ⟨b, 2 * j, none⟩ = some (.string p.1) ∧ W.cell? ⟨b, 2 * j + 1, none⟩ = some (.string p.2) := by
  have hcells := h.own
  rcases h.own.2 with ⟨hv, hn⟩ | ⟨g, cap, cur, hv, hb, hg, hcap, hmax, hsz, htake⟩
  · rw [hv, hn]
    exact ⟨none, 0, rfl, fun j p hp => by rw [List.eq_nil_of_length_eq_zero hn] at hp; simp at hp⟩
  · refine ⟨some ⟨g, 0, none⟩, cap, hv, fun j p hp => ⟨g, rfl, hb, (Array.getElem?_eq_some_iff.1 hg).1, ?_, ?_⟩⟩
    · have hj := (List.getElem?_eq_some_iff.1 hp).1
      rw [hv] at hcells
      rw [hcells.cellAt _ (by omega)]
      exact (pcells_at ps j p hp).1
    · have hj := (List.getElem?_eq_some_iff.1 hp).1
      rw [hv] at hcells
      rw [hcells.cellAt _ (by omega)]
      exact (pcells_at ps j p hp).2
end Go.Proofs.YtmmghppjhmdikaaGreatDoor
