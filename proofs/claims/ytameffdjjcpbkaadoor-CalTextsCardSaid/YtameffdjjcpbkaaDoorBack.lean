/-
  CalBack returns true for every date and every two texts: a right date's text is parsed as it, whatever stands behind it; what is parsed is right, and what is left is the text's end.
  Conditions: none (every input); the listed tables (months' lengths, and the library's) stand as the program's text lays them (the card ties them).
-/
import Derived.Test.YtameffdjjcpbkaaDoorFrame
import Derived.Test.YtameffdjjcpbkaaDoorParse
import Derived.Test.YtameffdjjcpbkaaDoorPrinted
import Derived.Stop.LaidErr
namespace Go.Proofs.YtameffdjjcpbkaaDoor.calBack
open Go.ChangeShapes Go.WideShapes Go.ChangeAt Go.RowKit Go.Joins

theorem parse_t {X : ByteArray} {L : List UInt8} {w : World} (h : X = bytes L) (ht : Tab w) (hl : L.length ≤ 9223372036854775807) : Calls Tryd.prog 24 #[.string X] w (ParseAns L w) := by
  rw [h]; exact parse_any L w ht hl
theorem parsed_err {l t : List UInt8} {y m d h i s n z err : Int} (hp : ParsedAs l y m d h i s n z t err) : err = 0 ∨ err = 3 := by
  obtain ⟨t1, t2, t3, t4, t5, t6, e1, e2, e3, e4, e5, e6, hc⟩ := hp
  rcases hc with ⟨_, _, _, _, _, _, _, _, _, _, he⟩ | ⟨hf6, N, Z, eN, eZ, hc⟩
  · exact .inr he
  · rcases hc with ⟨_, _, _, _, _, _, _, _, _, _, he⟩ | ⟨_, _, _, _, _, _, _, _, _, _, he⟩
    · exact .inl he
    · exact .inr he
theorem list_size (s : ByteArray) : s.data.toList.length = s.size := by rw [Array.length_toList]; rfl
theorem dateText_size (y m d h i s n z : Int) : (bytes (dateText y m d h i s n z)).size ≤ 32 := by
  rw [bytes_size]
  unfold dateText nanoText zoneText
  split <;> split <;> simp [pad_length] <;> split <;> simp
theorem text_more (L : List UInt8) (more : ByteArray) : bytes L ++ more = bytes (L ++ more.data.toList) := by rw [← bytes_append, bytes_self]
/-- The end of a text. -/
theorem end_is {s : ByteArray} {t : List UInt8} (h : ∃ p, s.data.toList = p ++ t) : s.extract (s.size - (bytes t).size) s.size = bytes t := by
  obtain ⟨p, hp⟩ := h
  have hl : s.size = p.length + t.length := by rw [← list_size, hp, List.length_append]
  rw [Lib.extract_eq, hp, bytes_size, show s.size - t.length = p.length by omega, List.drop_left, List.take_of_length_le (by omega)]
  rfl
set_option maxHeartbeats 2000000 in
set_option maxRecDepth 100000 in
theorem walk_no (y m d h i s n z : Int) (more s0 : ByteArray) (w : World) (ht : Tab w) (hp : Pow w) (hs : s0.size ≤ 9223372036854775807) (hr : rightB y m d h i s n z = false) :
    Calls Tryd.prog 5 #[.agg #[.int .i64 y, .int .i64 m, .int .i64 d, .int .i64 h, .int .i64 i, .int .i64 s, .int .i64 n, .int .i64 z], .string more, .string s0] w
      fun e w' => e = .returned (.bool true) ∧ Below w.heap.size w w' := by
  have hb : Below w.heap.size w (w.alloc (.cells #[.int .i64 y, .int .i64 m, .int .i64 d, .int .i64 h, .int .i64 i, .int .i64 s, .int .i64 n, .int .i64 z] 23)) := (Below.refl _ _).alloc (Nat.le_refl _) _
  have ht1 := ht.below hb
  have hp1 := hp.below hb
  go_enter Tryd.func5, Tryd.ntmps5
  go_wp2_with fail
  refine (shown_any _ ht1).mono ?_
  rintro e w2 ⟨rfl, hb2⟩
  have ht2 := ht1.below hb2
  have hp2 := hp1.below hb2
  have B2 : Below w.heap.size w w2 := hb.trans (hb2.mono (by simp))
  obtain ⟨hc2, hf2⟩ := bcell hb2
  have hz : w.heap.size < w2.heap.size := by have := hb2.size; simp at this; omega
  clear ht ht1 hb hb2 hp hp1
  go_wp2_with fail
  refine (text_no _ _ _ _ _ _ _ _ _ ht2 hr).mono ?_
  rintro e w5 ⟨rfl, hb5⟩
  have TT := ht2.below hb5
  have BB := B2.trans (hb5.mono B2.size)
  obtain ⟨hc5, hf5⟩ := bcell hb5
  have hzb : w.heap.size < w5.heap.size := Nat.lt_of_lt_of_le hz hb5.size
  clear ht2 hp2 B2 hb5
  go_wp2_with fail
  refine (parse_t (bytes_self s0).symm TT (by rw [list_size]; omega)).mono ?_
  rintro e w6 ⟨Y, M, D, Hh, Ii, Ss, Kk, Zz, t, err, rfl, hpa, hb6⟩
  have tt6 := TT.below hb6
  have B6 := BB.trans (hb6.mono BB.size)
  obtain ⟨hc6, hf6⟩ := bcell hb6
  have hz6 : w.heap.size < w6.heap.size := Nat.lt_of_lt_of_le hzb hb6.size
  have tt7 : Tab (w6.alloc (.cells #[.int .i64 Y, .int .i64 M, .int .i64 D, .int .i64 Hh, .int .i64 Ii, .int .i64 Ss, .int .i64 Kk, .int .i64 Zz] 23)) := tt6.alloc _
  have b67 : Below w6.heap.size w6 (w6.alloc (.cells #[.int .i64 Y, .int .i64 M, .int .i64 D, .int .i64 Hh, .int .i64 Ii, .int .i64 Ss, .int .i64 Kk, .int .i64 Zz] 23)) := (Below.refl _ _).alloc (Nat.le_refl _) _
  have B7 := B6.trans (b67.mono B6.size)
  rcases parsed_err hpa with rfl | rfl
  · obtain ⟨hrx, hlen, hsuf⟩ := parsed_right hpa rfl
    have hx := end_is hsuf
    have hT : (bytes t).size < s0.size := by rw [bytes_size, ← list_size s0]; exact hlen
    obtain ⟨T, hTT⟩ : ∃ T, bytes t = T := ⟨_, rfl⟩
    rw [hTT] at hx hT ⊢
    have hT1 : ((T.size : Nat) : Int) < ((s0.size : Nat) : Int) := by omega
    have hT2 : (0 : Int) ≤ (s0.size : Int) - (T.size : Int) := by omega
    have hT3 : (s0.size : Int) - (T.size : Int) ≤ (s0.size : Int) := by omega
    have hT4 : ((s0.size : Int) - (T.size : Int)).toNat = s0.size - T.size := by omega
    have HPA := Lib.hid hpa
    clear hpa hlen hsuf hTT tt6
    go_wp2_with fail
    refine (right_any _ _ _ _ _ _ _ _ _ tt7).mono ?_
    rintro e w8 ⟨rfl, hb8⟩
    have tt8 := tt7.below hb8
    have B8 := B7.trans (hb8.mono B7.size)
    obtain ⟨hc8, hf8⟩ := bcell hb8
    have hz8 : w.heap.size < (w6.alloc (.cells #[.int .i64 Y, .int .i64 M, .int .i64 D, .int .i64 Hh, .int .i64 Ii, .int .i64 Ss, .int .i64 Kk, .int .i64 Zz] 23)).heap.size := by simp; omega
    go_wp2_with fail
    refine (right_any _ _ _ _ _ _ _ _ _ tt8).mono ?_
    rintro e w9 ⟨rfl, hb9⟩
    have B9 := B8.trans (hb9.mono B8.size)
    go_wp2
    go_ret
    exact ⟨rfl, B9⟩
  · clear hpa tt6
    go_wp2_with fail
    refine (right_any _ _ _ _ _ _ _ _ _ tt7).mono ?_
    rintro e w8 ⟨rfl, hb8⟩
    have B8 := B7.trans (hb8.mono B7.size)
    go_wp2
    go_ret
    exact ⟨rfl, B8⟩
set_option maxHeartbeats 4000000 in
set_option maxRecDepth 100000 in
theorem walk_yes (y m d h i s n z : Int) (more s0 : ByteArray) (w : World) (ht : Tab w) (hp : Pow w) (hm : more.size ≤ 140737488351232) (hs : s0.size ≤ 9223372036854775807) (hr : rightB y m d h i s n z = true) :
    Calls Tryd.prog 5 #[.agg #[.int .i64 y, .int .i64 m, .int .i64 d, .int .i64 h, .int .i64 i, .int .i64 s, .int .i64 n, .int .i64 z], .string more, .string s0] w
      fun e w' => e = .returned (.bool true) ∧ Below w.heap.size w w' := by
  have hb : Below w.heap.size w (w.alloc (.cells #[.int .i64 y, .int .i64 m, .int .i64 d, .int .i64 h, .int .i64 i, .int .i64 s, .int .i64 n, .int .i64 z] 23)) := (Below.refl _ _).alloc (Nat.le_refl _) _
  have ht1 := ht.below hb
  have hp1 := hp.below hb
  go_enter Tryd.func5, Tryd.ntmps5
  go_wp2_with fail
  refine (shown_any _ ht1).mono ?_
  rintro e w2 ⟨rfl, hb2⟩
  have ht2 := ht1.below hb2
  have hp2 := hp1.below hb2
  have B2 : Below w.heap.size w w2 := hb.trans (hb2.mono (by simp))
  obtain ⟨hc2, hf2⟩ := bcell hb2
  have hz : w.heap.size < w2.heap.size := by have := hb2.size; simp at this; omega
  clear ht ht1 hb hb2 hp hp1
  go_wp2_with fail
  refine (text_yes _ _ _ _ _ _ _ _ _ ht2 hp2 hr).mono ?_
  rintro e w3 ⟨rfl, hb3⟩
  have ht3 := ht2.below hb3
  have B3 := B2.trans (hb3.mono B2.size)
  obtain ⟨hc3, hf3⟩ := bcell hb3
  have hz3 : w.heap.size < w3.heap.size := Nat.lt_of_lt_of_le hz hb3.size
  have ha := dateText_size y m d h i s n z
  obtain ⟨A, hA⟩ : ∃ A, bytes (dateText y m d h i s n z) = A := ⟨_, rfl⟩
  rw [hA] at ha ⊢
  have HA := Lib.hid hA
  have c1 : ¬ 9223372036854775807 < A.size + more.size := by omega
  clear ht2 hp2 B2 hb3 hA
  go_wp2_with fail
  refine (parse_t (L := dateText y m d h i s n z ++ more.data.toList) (by rw [← HA.out]; exact text_more _ _) ht3 (by rw [List.length_append, list_size, ← bytes_size, HA.out]; omega)).mono ?_
  rintro e w4 ⟨y', m', d', h', i', s', n', z', t', err', rfl, hpa', hb4⟩
  obtain ⟨rfl, e1, e2, e3, e4, e5, e6, e7, e8, e9⟩ := text_back hr _ hpa'
  clear hpa'
  subst e1 e2 e3 e4 e5 e6 e7 e8 e9
  rw [bytes_self]
  have ht4 := ht3.below hb4
  have B4 := B3.trans (hb4.mono B3.size)
  obtain ⟨hc4, hf4⟩ := bcell hb4
  have hz4 : w.heap.size < w4.heap.size := Nat.lt_of_lt_of_le hz3 hb4.size
  clear ht3 B3 hb4 HA
  have b44 : Below w4.heap.size w4 (w4.alloc (.cells #[.int .i64 y', .int .i64 m', .int .i64 d', .int .i64 h', .int .i64 i', .int .i64 s', .int .i64 n', .int .i64 z'] 23)) := (Below.refl _ _).alloc (Nat.le_refl _) _
  have TT := ht4.below b44
  have BB := B4.trans (b44.mono B4.size)
  have hzb : w.heap.size < (w4.alloc (.cells #[.int .i64 y', .int .i64 m', .int .i64 d', .int .i64 h', .int .i64 i', .int .i64 s', .int .i64 n', .int .i64 z'] 23)).heap.size := by simp; omega
  clear ht4 B4 b44 c1 ha
  go_wp2_with fail
  refine (parse_t (bytes_self s0).symm TT (by rw [list_size]; omega)).mono ?_
  rintro e w6 ⟨Y, M, D, Hh, Ii, Ss, Kk, Zz, t, err, rfl, hpa, hb6⟩
  have tt6 := TT.below hb6
  have B6 := BB.trans (hb6.mono BB.size)
  obtain ⟨hc6, hf6⟩ := bcell hb6
  have hz6 : w.heap.size < w6.heap.size := Nat.lt_of_lt_of_le hzb hb6.size
  have tt7 : Tab (w6.alloc (.cells #[.int .i64 Y, .int .i64 M, .int .i64 D, .int .i64 Hh, .int .i64 Ii, .int .i64 Ss, .int .i64 Kk, .int .i64 Zz] 23)) := tt6.alloc _
  have b67 : Below w6.heap.size w6 (w6.alloc (.cells #[.int .i64 Y, .int .i64 M, .int .i64 D, .int .i64 Hh, .int .i64 Ii, .int .i64 Ss, .int .i64 Kk, .int .i64 Zz] 23)) := (Below.refl _ _).alloc (Nat.le_refl _) _
  have B7 := B6.trans (b67.mono B6.size)
  rcases parsed_err hpa with rfl | rfl
  · obtain ⟨hrx, hlen, hsuf⟩ := parsed_right hpa rfl
    have hx := end_is hsuf
    have hT : (bytes t).size < s0.size := by rw [bytes_size, ← list_size s0]; exact hlen
    obtain ⟨T, hTT⟩ : ∃ T, bytes t = T := ⟨_, rfl⟩
    rw [hTT] at hx hT ⊢
    have hT1 : ((T.size : Nat) : Int) < ((s0.size : Nat) : Int) := by omega
    have hT2 : (0 : Int) ≤ (s0.size : Int) - (T.size : Int) := by omega
    have hT3 : (s0.size : Int) - (T.size : Int) ≤ (s0.size : Int) := by omega
    have hT4 : ((s0.size : Int) - (T.size : Int)).toNat = s0.size - T.size := by omega
    have HPA := Lib.hid hpa
    clear hpa hlen hsuf hTT tt6
    go_wp2_with fail
    refine (right_any _ _ _ _ _ _ _ _ _ tt7).mono ?_
    rintro e w8 ⟨rfl, hb8⟩
    have tt8 := tt7.below hb8
    have B8 := B7.trans (hb8.mono B7.size)
    obtain ⟨hc8, hf8⟩ := bcell hb8
    have hz8 : w.heap.size < (w6.alloc (.cells #[.int .i64 Y, .int .i64 M, .int .i64 D, .int .i64 Hh, .int .i64 Ii, .int .i64 Ss, .int .i64 Kk, .int .i64 Zz] 23)).heap.size := by simp; omega
    go_wp2_with fail
    refine (right_any _ _ _ _ _ _ _ _ _ tt8).mono ?_
    rintro e w9 ⟨rfl, hb9⟩
    have B9 := B8.trans (hb9.mono B8.size)
    go_wp2
    go_ret
    exact ⟨rfl, B9⟩
  · clear hpa tt6
    go_wp2_with fail
    refine (right_any _ _ _ _ _ _ _ _ _ tt7).mono ?_
    rintro e w8 ⟨rfl, hb8⟩
    have B8 := B7.trans (hb8.mono B7.size)
    go_wp2
    go_ret
    exact ⟨rfl, B8⟩
end Go.Proofs.YtameffdjjcpbkaaDoor.calBack
