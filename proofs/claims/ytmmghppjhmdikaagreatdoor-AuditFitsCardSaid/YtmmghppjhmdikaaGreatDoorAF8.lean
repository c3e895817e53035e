/- The texts Shelf2, CalRead, CalTake, CalParsed, CalRefRead, CalRefParsed, DateTail, one behind the other. -/
import Derived.Shelf.Strings.OnBuilder
import Derived.Shelf.LaysM
import Derived.Shelf.Strconv.Itoa3
import Derived.Shelf.Strings.Repeat
import Derived.Test.YtmmghppjhmdikaaGreatDoorProg
import Derived.Test.YtmmghppjhmdikaaGreatDoorAF1
import Derived.Test.YtmmghppjhmdikaaGreatDoorAF32
import Derived.Test.YtmmghppjhmdikaaGreatDoorAF3
/- What three functions of the library more answer at this program (strings.Join, Repeat, strconv.Itoa): the library's contracts, laid at its numbers (by the guide's tool, in plain words). -/
namespace Go.Proofs
open Go.Shelf
def Tryz.laysM171_ren : Go.Shelf.Ren := ⟨fun | 171 => 43 | 243 => 60 | 246 => 92 | 283 => 111 | 284 => 112 | 285 => 113 | 286 => 114 | 129 => 129 | 317 => 132 | 318 => 133 | 319 => 134 | 320 => 135 | 337 => 142 | 338 => 143 | n => n, fun | 3 => 3 | 9 => 9 | 2 => 2 | 4 => 4 | 171 => 156 | 0 => 0 | 53 => 23 | 37 => 65 | 5 => 5 | 173 => 159 | 212 => 179 | 51 => 22 | 20 => 20 | 213 => 180 | 46 => 129 | 232 => 35 | 233 => 189 | n => n, fun | 17 => 6 | 18 => 7 | 19 => 8 | n => n⟩
theorem Tryz.laysM171 : Go.Proofs.LaysM.n171 Tryz.prog Tryz.laysM171_ren := {
  mixed := by kernel_rfl
  f129 := Tryz.func129.trans (congrArg some (by kernel_rfl))
  f171 := Tryz.func43.trans (congrArg some (by kernel_rfl))
  f243 := Tryz.func60.trans (congrArg some (by kernel_rfl))
  f246 := Tryz.func92.trans (congrArg some (by kernel_rfl))
  f283 := Tryz.func111.trans (congrArg some (by kernel_rfl))
  f284 := Tryz.func112.trans (congrArg some (by kernel_rfl))
  f285 := Tryz.func113.trans (congrArg some (by kernel_rfl))
  f286 := Tryz.func114.trans (congrArg some (by kernel_rfl))
  f317 := Tryz.func132.trans (congrArg some (by kernel_rfl))
  f318 := Tryz.func133.trans (congrArg some (by kernel_rfl))
  f319 := Tryz.func134.trans (congrArg some (by kernel_rfl))
  f320 := Tryz.func135.trans (congrArg some (by kernel_rfl))
  f337 := Tryz.func142.trans (congrArg some (by kernel_rfl))
  f338 := Tryz.func143.trans (congrArg some (by kernel_rfl))
  t0 := Tryz.underlying0
  a0 := Tryz.isAgg0
  z0 := Tryz.sizeOf0
  v0 := Tryz.zeroValue0
  t2 := Tryz.underlying2
  a2 := Tryz.isAgg2
  z2 := Tryz.sizeOf2
  v2 := Tryz.zeroValue2
  t3 := Tryz.underlying3
  a3 := Tryz.isAgg3
  z3 := Tryz.sizeOf3
  v3 := Tryz.zeroValue3
  t4 := Tryz.underlying4
  a4 := Tryz.isAgg4
  z4 := Tryz.sizeOf4
  v4 := Tryz.zeroValue4
  t5 := Tryz.underlying5
  a5 := Tryz.isAgg5
  z5 := Tryz.sizeOf5
  v5 := Tryz.zeroValue5
  t9 := Tryz.underlying9
  a9 := Tryz.isAgg9
  z9 := Tryz.sizeOf9
  v9 := Tryz.zeroValue9
  t20 := Tryz.underlying20
  a20 := Tryz.isAgg20
  z20 := Tryz.sizeOf20
  v20 := Tryz.zeroValue20
  t37 := Tryz.underlying65
  a37 := Tryz.isAgg65
  z37 := Tryz.sizeOf65
  v37 := Tryz.zeroValue65
  t46 := Tryz.underlying129
  a46 := Tryz.isAgg129
  z46 := Tryz.sizeOf129
  v46 := Tryz.zeroValue129
  t51 := Tryz.underlying22
  a51 := Tryz.isAgg22
  z51 := Tryz.sizeOf22
  v51 := Tryz.zeroValue22
  t53 := Tryz.underlying23
  a53 := Tryz.isAgg23
  z53 := Tryz.sizeOf23
  v53 := Tryz.zeroValue23
  t171 := Tryz.underlying156
  a171 := Tryz.isAgg156
  z171 := Tryz.sizeOf156
  v171 := Tryz.zeroValue156
  t173 := Tryz.underlying159
  a173 := Tryz.isAgg159
  z173 := Tryz.sizeOf159
  v173 := Tryz.zeroValue159
  t212 := Tryz.underlying179
  a212 := Tryz.isAgg179
  z212 := Tryz.sizeOf179
  v212 := Tryz.zeroValue179
  t213 := Tryz.underlying180
  a213 := Tryz.isAgg180
  z213 := Tryz.sizeOf180
  t232 := Tryz.underlying35
  a232 := Tryz.isAgg35
  z232 := Tryz.sizeOf35
  v232 := Tryz.zeroValue35
  t233 := Tryz.underlying189
  a233 := Tryz.isAgg189
  z233 := Tryz.sizeOf189
  v233 := Tryz.zeroValue189
  g17 := by kernel_rfl
  g18 := by kernel_rfl
  g19 := by kernel_rfl
  i0 := by kernel_rfl
  i2 := by kernel_rfl
  i3 := by kernel_rfl
  i4 := by kernel_rfl
  i5 := by kernel_rfl
  i9 := by kernel_rfl
  i20 := by kernel_rfl
  i37 := by kernel_rfl
  i46 := by kernel_rfl
  i51 := by kernel_rfl
  i53 := by kernel_rfl
  i171 := by kernel_rfl
  i173 := by kernel_rfl
  i212 := by kernel_rfl
  i232 := by kernel_rfl
  i233 := by kernel_rfl
  m17 := by kernel_rfl
  m18 := by kernel_rfl
  m19 := by kernel_rfl }
open Go.RowKit Go.Sort Go.Lib in
theorem Tryz.strconv_Itoa (n : Int) (h0 : -9223372036854775808 ≤ n) (h1 : n ≤ 9223372036854775807) (w : World) (htab : Lib.TabIs Tryz.prog w "internal/strconv.uint64pow10" .u64 Lib.pow10Tab) :
    Calls Tryz.prog 43 #[.int .i64 n] w fun e w' => e = .returned (.string ⟨(Lib.itoa n).toArray⟩) ∧ ∃ k os, w' = grow (w.drewN k) os := Any.strconv_Itoa Tryz.laysM171 n h0 h1 w htab
end Go.Proofs
/- What package cal's small readers answer: figuresOf, number, power, and the closure of Parse that moves on. -/
namespace Go.Proofs.YtmmghppjhmdikaaGreatDoor.Cal
open Go.ChangeShapes Go.WideShapes Go.ChangeAt Go.RowKit

theorem drop_at (s : ByteArray) (k : Nat) (h : k < s.size) : s.data.toList.drop k = s[k] :: s.data.toList.drop (k + 1) := by
  rw [List.drop_eq_getElem_cons (by rw [Array.length_toList]; exact h)]
  rfl
theorem take_at (s : ByteArray) (k : Nat) (h : k < s.size) : s.data.toList.take (k + 1) = s.data.toList.take k ++ [s[k]] := by
  rw [List.take_succ_eq_append_getElem (by simpa using h)]; rfl
set_option maxHeartbeats 800000 in
theorem figuresOf_any (s : ByteArray) (n : Nat) (w : World) (hs : s.size ≤ 9223372036854775807) (hn : n ≤ 6) :
    Calls Tryz.prog 62 #[.string s, .int .i64 n] w fun e w' => e = .returned (.int .i64 (figs s.data.toList n)) ∧ w' = w := by
  go_enter Tryz.func62, Tryz.ntmps62
  go_wp2
  go_loop [5] (fun t => ∃ k : Nat, k ≤ n ∧ k ≤ s.size ∧ t = .int .i64 k ∧ figs s.data.toList n = k + figs (s.data.toList.drop k) (n - k)) (fun t => n - (intOf t).toNat)
  case atStart => exact ⟨0, by omega, by omega, rfl, by simp⟩
  case round =>
    obtain ⟨k, k1, k2, rfl, hk⟩ := hrel
    by_cases hlt : k < n ∧ k < s.size
    · obtain ⟨l1, l2⟩ := hlt
      have hd := drop_at s k l2
      obtain ⟨j, hj⟩ : ∃ j, n - k = j + 1 := ⟨n - k - 1, by omega⟩
      have hj2 : n - (k + 1) = j := by omega
      by_cases hc : 48 ≤ ((s[k]).toNat : Int) ∧ ((s[k]).toNat : Int) ≤ 57
      · obtain ⟨c1, c2⟩ := hc
        have hnext : figs s.data.toList n = (k + 1) + figs (s.data.toList.drop (k + 1)) (n - (k + 1)) := by
          rw [hk, hd, hj, hj2, figs, if_pos (show isDig s[k] = true from decide_eq_true ⟨c1, c2⟩)]; omega
        have HK := Lib.hid hnext
        have hm : (k : Int) < min (n : Int) (s.size : Int) := by omega
        clear hk hd hj hj2 hnext
        go_wp2
        go_round
        case rel => exact ⟨k + 1, by omega, by omega, by go_num, HK.out⟩
        case measure => simp [intOf]; omega
      · have hend : figs s.data.toList n = k := by
          rw [hk, hd, hj, figs, if_neg (by simpa [isDig] using hc)]; omega
        have HE := Lib.hid hend
        have hm : (k : Int) < min (n : Int) (s.size : Int) := by omega
        clear hk hd hj hj2 hend
        rcases (show ((s[k]).toNat : Int) < 48 ∨ (48 ≤ ((s[k]).toNat : Int) ∧ 57 < ((s[k]).toNat : Int)) by omega) with h | ⟨h, h'⟩
        all_goals
          clear hc
          go_wp2
          go_ret
          exact ⟨by rw [HE.out]; rfl, rfl⟩
    · have hend : figs s.data.toList n = k := by
        rw [hk]
        by_cases h : k < n
        · have : s.data.toList.drop k = [] := List.drop_of_length_le (by rw [Array.length_toList]; have : ¬ k < s.size := fun h2 => hlt ⟨h, h2⟩; change s.size ≤ k; omega)
          rw [this]
          have := (figs_le [] (n - k)).2
          simp at this ⊢; omega
        · rw [show n - k = 0 by omega]; unfold figs; omega
      have HE := Lib.hid hend
      have hm : ¬ (k : Int) < min (n : Int) (s.size : Int) := by omega
      clear hk hend hlt
      go_wp2
      go_ret
      exact ⟨by rw [HE.out]; rfl, rfl⟩

theorem ret_int {k : IntKind} {a b : Int} (h : a = b) : Ending.returned (.int k a) = .returned (.int k b) := by rw [h]
set_option maxHeartbeats 800000 in
theorem number_any (s : ByteArray) (w : World) (hs : s.size ≤ 6) (hd : ∀ c ∈ s.data.toList, isDig c = true) :
    Calls Tryz.prog 63 #[.string s] w fun e w' => e = .returned (.int .i64 (numOf s.data.toList)) ∧ w' = w := by
  have HD := Lib.hid hd
  clear hd
  go_enter Tryz.func63, Tryz.ntmps63
  go_wp2
  go_loop [3, 7] (fun v i => ∃ k : Nat, k ≤ s.size ∧ i = .int .i64 k ∧ v = .int .i64 (numOf (s.data.toList.take k))) (fun _ i => s.size - (intOf i).toNat)
  case atStart => exact ⟨0, by omega, rfl, rfl⟩
  case round =>
    obtain ⟨k, hk, rfl, rfl⟩ := hrel
    by_cases hlt : k < s.size
    · have hb := numOf_bd (s.data.toList.take k) (fun c hc => HD.out c (List.mem_of_mem_take hc))
      have hl : (s.data.toList.take k).length = k := by rw [List.length_take, Array.length_toList]; exact Nat.min_eq_left (by change k ≤ s.size; omega)
      rw [hl] at hb
      have hp : (10 : Int) ^ k ≤ 1000000 := by
        have : 10 ^ k ≤ 10 ^ 6 := Nat.pow_le_pow_right (by decide) (by omega)
        have e : (10 : Int) ^ k = ((10 ^ k : Nat) : Int) := by simp
        rw [e]
        omega
      have hc := of_decide_eq_true (HD.out s[k] (by rw [← List.take_append_drop k s.data.toList, drop_at s k hlt]; simp))
      have HS := Lib.hid (show numOf (s.data.toList.take (k + 1)) = 10 * numOf (s.data.toList.take k) + (((s[k]).toNat : Int) - 48) by rw [take_at s k hlt, numOf_snoc])
      obtain ⟨b1, b2⟩ := hb
      have b3 : numOf (s.data.toList.take k) ≤ 1000000 := by omega
      obtain ⟨c1, c2⟩ := hc
      clear b2 hp hl
      generalize numOf (s.data.toList.take k) = V at b1 b3 HS ⊢
      go_wp2
      go_round
      case rel => exact ⟨k + 1, by omega, by go_num, by rw [HS.out]⟩
      case measure => simp [intOf]; omega
    · obtain rfl : k = s.size := by omega
      have e : s.data.toList.take s.size = s.data.toList := List.take_of_length_le (by rw [Array.length_toList]; exact Nat.le_refl _)
      rw [e]
      clear e
      go_wp2
      go_ret
      exact ⟨rfl, rfl⟩
theorem power_any (n : Nat) (w : World) (hn : n ≤ 9) :
    Calls Tryz.prog 64 #[.int .i64 n] w fun e w' => e = .returned (.int .i64 ((10 ^ n : Nat) : Int)) ∧ w' = w := by
  go_enter Tryz.func64, Tryz.ntmps64
  go_wp2
  go_loop [3, 5] (fun v i => ∃ k : Nat, k ≤ n ∧ i = .int .i64 k ∧ v = .int .i64 ((10 ^ k : Nat) : Int)) (fun _ i => n - (intOf i).toNat)
  case atStart => exact ⟨0, by omega, rfl, rfl⟩
  case round =>
    obtain ⟨k, hk, rfl, rfl⟩ := hrel
    by_cases hlt : k < n
    · have hp : 10 ^ k ≤ 10 ^ 9 := Nat.pow_le_pow_right (by decide) (by omega)
      have HS := Lib.hid (Nat.pow_succ 10 k)
      generalize 10 ^ k = V at hp HS ⊢
      have hv : (V : Int) ≤ 1000000000 := by omega
      clear hp
      go_wp2
      go_round
      case rel => exact ⟨k + 1, by omega, by go_num, by rw [HS.out]; go_num⟩
      case measure => simp [intOf]; omega
    · obtain rfl : k = n := by omega
      go_wp2
      go_ret
      exact ⟨rfl, rfl⟩
end Go.Proofs.YtmmghppjhmdikaaGreatDoor.Cal
/- What the closure of Parse that takes figures answers, and what it leaves of its two variables. -/
namespace Go.Proofs.YtmmghppjhmdikaaGreatDoor.Cal
open Go.ChangeShapes Go.WideShapes Go.ChangeAt Go.RowKit

/-- The world in which Parse works: its answer, its date, what is left, whether all fits. -/
def PW (w : World) (o0 o1 : Obj) (r : ByteArray) (f : Bool) : World := (((w.alloc o0).alloc o1).alloc (.cells #[.string r] 9)).alloc (.cells #[.bool f] 4)
def bytes (l : List UInt8) : ByteArray := ⟨l.toArray⟩
theorem bytes_size (l : List UInt8) : (bytes l).size = l.length := by show l.toArray.size = _; simp
theorem bytes_list (l : List UInt8) : (bytes l).data.toList = l := rfl
theorem bytes_self (s : ByteArray) : bytes s.data.toList = s := Lib.mk_data s
def TakeAns (w : World) (o0 o1 : Obj) (T : Int × List UInt8 × Bool) (e : Ending) (w' : World) : Prop :=
  e = .returned (.int .i64 T.1) ∧ w' = (((w.alloc o0).alloc o1).alloc (.cells #[.string (bytes T.2.1)] 9)).alloc (.cells #[.bool T.2.2] 4)
theorem take_no (sg : ByteArray) (k : Nat) (w : World) (o0 o1 : Obj) (r : ByteArray) :
    Calls Tryz.prog 61 #[.string sg, .int .i64 k, .pointer (some ⟨w.heap.size + 2, 0, none⟩), .pointer (some ⟨w.heap.size + 3, 0, none⟩)] ((((w.alloc o0).alloc o1).alloc (.cells #[.string r] 9)).alloc (.cells #[.bool false] 4))
      fun e w' => e = .returned (.int .i64 0) ∧ w' = (((w.alloc o0).alloc o1).alloc (.cells #[.string r] 9)).alloc (.cells #[.bool false] 4) := by
  go_enter Tryz.func61, Tryz.ntmps61
  go_wp2_with (go_at_call 46; refine (Tryz.strings_CutPrefix _ _ _).mono ?_; rintro e w' ⟨rfl, rfl⟩)
  go_ret
  exact ⟨rfl, rfl⟩
theorem take_unsigned (sg : ByteArray) (k : Nat) (w : World) (o0 o1 : Obj) (r : ByteArray) (hp : Lib.hasPrefix r.data.toList sg.data.toList = false) :
    Calls Tryz.prog 61 #[.string sg, .int .i64 k, .pointer (some ⟨w.heap.size + 2, 0, none⟩), .pointer (some ⟨w.heap.size + 3, 0, none⟩)] ((((w.alloc o0).alloc o1).alloc (.cells #[.string r] 9)).alloc (.cells #[.bool true] 4))
      fun e w' => e = .returned (.int .i64 0) ∧ w' = (((w.alloc o0).alloc o1).alloc (.cells #[.string r] 9)).alloc (.cells #[.bool false] 4) := by
  go_enter Tryz.func61, Tryz.ntmps61
  go_wp2_with (go_at_call 46; refine (Tryz.strings_CutPrefix _ _ _).mono ?_; rintro e w' ⟨rfl, rfl⟩)
  go_ret
  exact ⟨rfl, rfl⟩
set_option maxHeartbeats 800000 in
theorem take_few (sg : ByteArray) (k : Nat) (w : World) (o0 o1 : Obj) (r : ByteArray) (b : List UInt8) (hb : Lib.trimPrefix r.data.toList sg.data.toList = b) (hs : b.length ≤ 9223372036854775807) (hk : k ≤ 6)
    (hp : Lib.hasPrefix r.data.toList sg.data.toList = true) (hf : ¬ figs b k = k) :
    Calls Tryz.prog 61 #[.string sg, .int .i64 k, .pointer (some ⟨w.heap.size + 2, 0, none⟩), .pointer (some ⟨w.heap.size + 3, 0, none⟩)] ((((w.alloc o0).alloc o1).alloc (.cells #[.string r] 9)).alloc (.cells #[.bool true] 4))
      fun e w' => e = .returned (.int .i64 0) ∧ w' = (((w.alloc o0).alloc o1).alloc (.cells #[.string r] 9)).alloc (.cells #[.bool false] 4) := by
  have he : (((figs b k : Nat) : Int) == (k : Int)) = false := beq_eq_false_iff_ne.2 (by omega)
  have HF := Lib.hid hf
  clear hf
  go_enter Tryz.func61, Tryz.ntmps61
  go_wp2_with fail
  refine (Tryz.strings_CutPrefix _ _ _).mono ?_
  rintro e w' ⟨rfl, rfl⟩
  rw [hb, hp]
  clear hb hp
  go_wp2_with fail
  refine (figuresOf_any (bytes b) k _ (by rw [bytes_size]; exact hs) hk).mono ?_
  rintro e w' ⟨rfl, rfl⟩
  rw [bytes_list]
  generalize figs b k = g at he ⊢
  go_wp2
  go_ret
  exact ⟨rfl, rfl⟩
set_option maxHeartbeats 800000 in
theorem take_yes (sg : ByteArray) (k : Nat) (w : World) (o0 o1 : Obj) (r : ByteArray) (b : List UInt8) (hb : Lib.trimPrefix r.data.toList sg.data.toList = b) (hs : b.length ≤ 9223372036854775807) (hk : k ≤ 6)
    (hp : Lib.hasPrefix r.data.toList sg.data.toList = true) (hf : figs b k = k) :
    Calls Tryz.prog 61 #[.string sg, .int .i64 k, .pointer (some ⟨w.heap.size + 2, 0, none⟩), .pointer (some ⟨w.heap.size + 3, 0, none⟩)] ((((w.alloc o0).alloc o1).alloc (.cells #[.string r] 9)).alloc (.cells #[.bool true] 4))
      fun e w' => e = .returned (.int .i64 (numOf (b.take k))) ∧ w' = (((w.alloc o0).alloc o1).alloc (.cells #[.string (bytes (b.drop k))] 9)).alloc (.cells #[.bool true] 4) := by
  have hl : k ≤ b.length := by have := (figs_le b k).2; omega
  have HD := Lib.hid (figs_all b k (by omega))
  have HF := Lib.hid hf
  clear hf
  go_enter Tryz.func61, Tryz.ntmps61
  go_wp2_with fail
  refine (Tryz.strings_CutPrefix _ _ _).mono ?_
  rintro e w' ⟨rfl, rfl⟩
  rw [hb, hp]
  clear hb hp
  go_wp2_with fail
  refine (figuresOf_any (bytes b) k _ (by rw [bytes_size]; exact hs) hk).mono ?_
  rintro e w' ⟨rfl, rfl⟩
  rw [bytes_list, HF.out]
  generalize hB : (⟨b.toArray⟩ : ByteArray) = B
  have hB' : bytes b = B := hB
  have hz : B.size = b.length := by rw [← hB']; exact bytes_size b
  have hkb : (k : Int) ≤ (B.size : Int) := by omega
  have hkn : k ≤ B.size := by omega
  have HX1 := Lib.hid (show B.extract 0 k = bytes (b.take k) by rw [← hB', Lib.extract_eq, bytes_list]; simp; rfl)
  have HX2 := Lib.hid (show B.extract k B.size = bytes (b.drop k) by
    rw [hz, ← hB', Lib.extract_eq, bytes_list, List.take_of_length_le (by rw [List.length_drop]; omega)]; rfl)
  have HZ := Lib.hid hz
  have hsz : B.size ≤ 9223372036854775807 := by omega
  clear hB hB' hz hs HF
  go_wp2_with fail
  rw [HX1.out]
  refine (number_any (bytes (b.take k)) _ (by rw [bytes_size, List.length_take]; omega) HD.out).mono ?_
  rintro e w' ⟨rfl, rfl⟩
  rw [bytes_list, HX2.out]
  go_wp2
  go_ret
  exact ⟨rfl, rfl⟩
theorem take_any (sg : ByteArray) (k : Nat) (w : World) (o0 o1 : Obj) (r : List UInt8) (f : Bool) (hs : r.length ≤ 9223372036854775807) (hk : k ≤ 6) :
    Calls Tryz.prog 61 #[.string sg, .int .i64 k, .pointer (some ⟨w.heap.size + 2, 0, none⟩), .pointer (some ⟨w.heap.size + 3, 0, none⟩)] ((((w.alloc o0).alloc o1).alloc (.cells #[.string (bytes r)] 9)).alloc (.cells #[.bool f] 4))
      (TakeAns w o0 o1 (tk sg.data.toList k r f)) := by
  cases f with
  | false => rw [tk_false]; exact take_no sg k w o0 o1 (bytes r)
  | true =>
    by_cases hp : Lib.hasPrefix r sg.data.toList = true
    · obtain ⟨p, hpp⟩ := trim_suffix r sg.data.toList
      have hbl : (Lib.trimPrefix r sg.data.toList).length ≤ 9223372036854775807 := by
        have : r.length = p.length + (Lib.trimPrefix r sg.data.toList).length := by conv => lhs; rw [hpp, List.length_append]
        omega
      by_cases hf : figs (Lib.trimPrefix r sg.data.toList) k = k
      · have e : tk sg.data.toList k r true = (numOf ((Lib.trimPrefix r sg.data.toList).take k), (Lib.trimPrefix r sg.data.toList).drop k, true) := by unfold tk; rw [hp, hf]; simp
        rw [e]
        exact take_yes sg k w o0 o1 (bytes r) _ rfl hbl hk hp hf
      · have e : tk sg.data.toList k r true = (0, r, false) := by unfold tk; rw [hp]; simp [hf]
        rw [e]
        exact take_few sg k w o0 o1 (bytes r) _ rfl hbl hk hp hf
    · have hp' : Lib.hasPrefix r sg.data.toList = false := by simpa using hp
      have e : tk sg.data.toList k r true = (0, r, false) := by unfold tk; rw [hp']; simp
      rw [e]
      exact take_unsigned sg k w o0 o1 (bytes r) hp'
end Go.Proofs.YtmmghppjhmdikaaGreatDoor.Cal
/- What Parse reads of a text, as lists of bytes. No program is spoken of. -/
namespace Go.Proofs.YtmmghppjhmdikaaGreatDoor.Cal
open Go

abbrev T3 := Int × List UInt8 × Bool
/-- The figures behind a point, if there is one. -/
def nanoL (r : List UInt8) : T3 :=
  if Lib.hasPrefix r [46] = true then
    let k := max 1 (figs (Lib.trimPrefix r [46]) 6)
    let t := tk [46] k r true
    (t.1 * ((10 ^ (9 - k) : Nat) : Int), t.2.1, t.2.2)
  else (0, r, true)
/-- The zone's hours and minutes. -/
def zoneL (r : List UInt8) (f : Bool) : Int × Int × List UInt8 × Bool :=
  if Lib.hasPrefix r [90] = true then (0, 0, (tk [90] 0 r f).2.1, (tk [90] 0 r f).2.2)
  else if Lib.hasPrefix r [45] = true then
    let t := tk [45] 2 r f
    let u := tk [58] 2 t.2.1 t.2.2
    (-t.1, -u.1, u.2.1, u.2.2)
  else
    let t := tk [43] 2 r f
    let u := tk [58] 2 t.2.1 t.2.2
    (t.1, u.1, u.2.1, u.2.2)
/-- What Parse tells of a text: the date's numbers and what is left, or nothing. -/
def ParsedAs (l : List UInt8) (y m d h i s n z : Int) (t : List UInt8) (err : Int) : Prop :=
  ∃ t1 t2 t3 t4 t5 t6 : T3, tk [] 4 l true = t1 ∧ tk [45] 2 t1.2.1 t1.2.2 = t2 ∧ tk [45] 2 t2.2.1 t2.2.2 = t3 ∧ tk [84] 2 t3.2.1 t3.2.2 = t4 ∧ tk [58] 2 t4.2.1 t4.2.2 = t5 ∧ tk [58] 2 t5.2.1 t5.2.2 = t6 ∧
    ((t6.2.2 = false ∧ y = 0 ∧ m = 0 ∧ d = 0 ∧ h = 0 ∧ i = 0 ∧ s = 0 ∧ n = 0 ∧ z = 0 ∧ t = [] ∧ err = 3) ∨
     (t6.2.2 = true ∧ ∃ (N : T3) (Z : Int × Int × List UInt8 × Bool), nanoL t6.2.1 = N ∧ zoneL N.2.1 N.2.2 = Z ∧
        (((Z.2.2.2 = true ∧ (-59 ≤ Z.2.1 ∧ Z.2.1 ≤ 59) ∧ rightB t1.1 t2.1 t3.1 t4.1 t5.1 t6.1 N.1 (Z.1 * 60 + Z.2.1) = true) ∧
            y = t1.1 ∧ m = t2.1 ∧ d = t3.1 ∧ h = t4.1 ∧ i = t5.1 ∧ s = t6.1 ∧ n = N.1 ∧ z = Z.1 * 60 + Z.2.1 ∧ t = Z.2.2.1 ∧ err = 0) ∨
         (¬ (Z.2.2.2 = true ∧ (-59 ≤ Z.2.1 ∧ Z.2.1 ≤ 59) ∧ rightB t1.1 t2.1 t3.1 t4.1 t5.1 t6.1 N.1 (Z.1 * 60 + Z.2.1) = true) ∧
            y = 0 ∧ m = 0 ∧ d = 0 ∧ h = 0 ∧ i = 0 ∧ s = 0 ∧ n = 0 ∧ z = 0 ∧ t = [] ∧ err = 3))))

theorem nanoL_suffix (r : List UInt8) : ∃ p, r = p ++ (nanoL r).2.1 := by
  unfold nanoL
  split
  · exact tk_suffix _ _ _ _
  · exact ⟨[], rfl⟩
theorem suffix_trans {a b c : List UInt8} (h1 : ∃ p, a = p ++ b) (h2 : ∃ p, b = p ++ c) : ∃ p, a = p ++ c := by
  obtain ⟨p, rfl⟩ := h1
  obtain ⟨q, rfl⟩ := h2
  exact ⟨p ++ q, by rw [List.append_assoc]⟩
theorem zoneL_suffix (r : List UInt8) (f : Bool) : ∃ p, r = p ++ (zoneL r f).2.2.1 := by
  unfold zoneL
  split
  · exact tk_suffix _ _ _ _
  · split
    · exact suffix_trans (tk_suffix _ _ _ _) (tk_suffix _ _ _ _)
    · exact suffix_trans (tk_suffix _ _ _ _) (tk_suffix _ _ _ _)
theorem tk_kept {sg : List UInt8} {k : Nat} {r : List UInt8} {f : Bool} (h : (tk sg k r f).2.2 = true) : f = true := by
  cases f with
  | true => rfl
  | false => rw [tk_false] at h; cases h
/-- What is told is right, and what is left is the text's end, and shorter than it. -/
theorem parsed_right {l t : List UInt8} {y m d h i s n z err : Int} (hp : ParsedAs l y m d h i s n z t err) (h0 : err = 0) : rightB y m d h i s n z = true ∧ t.length < l.length ∧ ∃ p, l = p ++ t := by
  obtain ⟨t1, t2, t3, t4, t5, t6, e1, e2, e3, e4, e5, e6, hc⟩ := hp
  rcases hc with ⟨_, _, _, _, _, _, _, _, _, _, he⟩ | ⟨hf6, N, Z, eN, eZ, hc⟩
  · rw [h0] at he; cases he
  · rcases hc with ⟨⟨_, _, hr⟩, rfl, rfl, rfl, rfl, rfl, rfl, rfl, rfl, rfl, _⟩ | ⟨_, _, _, _, _, _, _, _, _, _, he⟩
    · have f5 : t5.2.2 = true := by rw [← e6] at hf6; exact tk_kept hf6
      have f4 : t4.2.2 = true := by rw [← e5] at f5; exact tk_kept f5
      have f3 : t3.2.2 = true := by rw [← e4] at f4; exact tk_kept f4
      have f2 : t2.2.2 = true := by rw [← e3] at f3; exact tk_kept f3
      have f1 : t1.2.2 = true := by rw [← e2] at f2; exact tk_kept f2
      have hlen : t1.2.1.length < l.length := by rw [← e1]; exact tk_shorter _ _ _ _ (by omega) (by rw [e1]; exact f1)
      have s1 : ∃ p, l = p ++ t1.2.1 := by rw [← e1]; exact tk_suffix _ _ _ _
      have s2 : ∃ p, t1.2.1 = p ++ t2.2.1 := by rw [← e2]; exact tk_suffix _ _ _ _
      have s3 : ∃ p, t2.2.1 = p ++ t3.2.1 := by rw [← e3]; exact tk_suffix _ _ _ _
      have s4 : ∃ p, t3.2.1 = p ++ t4.2.1 := by rw [← e4]; exact tk_suffix _ _ _ _
      have s5 : ∃ p, t4.2.1 = p ++ t5.2.1 := by rw [← e5]; exact tk_suffix _ _ _ _
      have s6 : ∃ p, t5.2.1 = p ++ t6.2.1 := by rw [← e6]; exact tk_suffix _ _ _ _
      have s7 : ∃ p, t6.2.1 = p ++ N.2.1 := by rw [← eN]; exact nanoL_suffix _
      have s8 : ∃ p, N.2.1 = p ++ Z.2.2.1 := by rw [← eZ]; exact zoneL_suffix _ _
      have sr := suffix_trans s2 (suffix_trans s3 (suffix_trans s4 (suffix_trans s5 (suffix_trans s6 (suffix_trans s7 s8)))))
      refine ⟨hr, ?_, suffix_trans s1 sr⟩
      obtain ⟨p, hp⟩ := sr
      have := congrArg List.length hp
      rw [List.length_append] at this
      omega
    · rw [h0] at he; cases he

/-! ### a date's text -/
def zoneText (z : Int) : List UInt8 :=
  if z = 0 then [90] else (if z < 0 then [45] else [43]) ++ (pad 2 (z.natAbs / 60) ++ ([58] ++ pad 2 (z.natAbs % 60)))
def nanoText (n : Int) : List UInt8 := if n = 0 then [] else [46] ++ pad 6 (n.toNat / 1000)
def dateText (y m d h i s n z : Int) : List UInt8 :=
  pad 4 y.toNat ++ ([45] ++ (pad 2 m.toNat ++ ([45] ++ (pad 2 d.toNat ++ ([84] ++ (pad 2 h.toNat ++ ([58] ++ (pad 2 i.toNat ++ ([58] ++ (pad 2 s.toNat ++ (nanoText n ++ zoneText z)))))))))))
theorem zoneText_head (z : Int) (l : List UInt8) : Lib.hasPrefix (zoneText z ++ l) [46] = false := by
  unfold zoneText
  split
  · rfl
  · split <;> rfl
theorem zone_back (z : Int) (l : List UInt8) (h1 : -1439 ≤ z) (h2 : z ≤ 1439) :
    ∃ hh mm : Int, zoneL (zoneText z ++ l) true = (hh, mm, l, true) ∧ (-59 ≤ mm ∧ mm ≤ 59) ∧ hh * 60 + mm = z := by
  have p1 : z.natAbs / 60 < 10 ^ 2 := by omega
  have p2 : z.natAbs % 60 < 10 ^ 2 := by omega
  unfold zoneText zoneL
  by_cases h0 : z = 0
  · rw [if_pos h0, if_pos (hasPrefix_front [90] l)]
    have e := tk_pad [90] 0 0 l (by decide)
    simp only [pad, List.nil_append] at e
    rw [e]
    exact ⟨0, 0, rfl, by omega, by omega⟩
  · rw [if_neg h0]
    by_cases hn : z < 0
    · rw [if_pos hn, List.append_assoc, List.append_assoc, List.append_assoc]
      rw [if_neg (by simp [Lib.hasPrefix]), if_pos (hasPrefix_front [45] _)]
      have e1 := tk_pad [45] 2 (z.natAbs / 60) ([58] ++ (pad 2 (z.natAbs % 60) ++ l)) p1
      have e2 := tk_pad [58] 2 (z.natAbs % 60) l p2
      simp only [e1, e2]
      exact ⟨_, _, rfl, by omega, by omega⟩
    · rw [if_neg hn, List.append_assoc, List.append_assoc, List.append_assoc]
      rw [if_neg (by simp [Lib.hasPrefix]), if_neg (by simp [Lib.hasPrefix])]
      have e1 := tk_pad [43] 2 (z.natAbs / 60) ([58] ++ (pad 2 (z.natAbs % 60) ++ l)) p1
      have e2 := tk_pad [58] 2 (z.natAbs % 60) l p2
      simp only [e1, e2]
      exact ⟨_, _, rfl, by omega, by omega⟩
theorem nano_back (n z : Int) (l : List UInt8) (h1 : 0 ≤ n) (h2 : n ≤ 999999999) (h3 : n % 1000 = 0) : nanoL (nanoText n ++ (zoneText z ++ l)) = (n, zoneText z ++ l, true) := by
  unfold nanoText nanoL
  by_cases h0 : n = 0
  · rw [if_pos h0, List.nil_append, zoneText_head, h0]; rfl
  · rw [if_neg h0, List.append_assoc, if_pos (hasPrefix_front [46] _), trimPrefix_front]
    have hk : figs (pad 6 (n.toNat / 1000) ++ (zoneText z ++ l)) 6 = 6 := by have := figs_front (pad 6 (n.toNat / 1000)) (zoneText z ++ l) (pad_digs _ _); rwa [pad_length] at this
    have e := tk_pad [46] 6 (n.toNat / 1000) (zoneText z ++ l) (by omega)
    simp only [hk, show max 1 6 = 6 from rfl, e]
    have : ((10 ^ (9 - 6) : Nat) : Int) = 1000 := rfl
    rw [this, show ((n.toNat / 1000 : Nat) : Int) * 1000 = n by omega]
/-- What is printed of a right date is read as it. -/
theorem text_back {y m d h i s n z : Int} (hr : rightB y m d h i s n z = true) (l : List UInt8) {y' m' d' h' i' s' n' z' err : Int} {t : List UInt8}
    (hp : ParsedAs (dateText y m d h i s n z ++ l) y' m' d' h' i' s' n' z' t err) : err = 0 ∧ y' = y ∧ m' = m ∧ d' = d ∧ h' = h ∧ i' = i ∧ s' = s ∧ n' = n ∧ z' = z ∧ t = l := by
  obtain ⟨⟨y1, y2⟩, ⟨d1, d2⟩, ⟨h1, h2⟩, ⟨i1, i2⟩, ⟨s1, s2⟩, ⟨n1, n2⟩, n3, ⟨z1, z2⟩⟩ := (right_iff ..).1 hr
  obtain ⟨m1, m2⟩ := month_of_day d1 d2
  have ld := lenI_bd y m
  obtain ⟨t1, t2, t3, t4, t5, t6, e1, e2, e3, e4, e5, e6, hc⟩ := hp
  unfold dateText at e1
  simp only [List.append_assoc] at e1
  have q1 := tk_pad [] 4 y.toNat ([45] ++ (pad 2 m.toNat ++ ([45] ++ (pad 2 d.toNat ++ ([84] ++ (pad 2 h.toNat ++ ([58] ++ (pad 2 i.toNat ++ ([58] ++ (pad 2 s.toNat ++ (nanoText n ++ (zoneText z ++ l))))))))))))  (by omega)
  rw [List.nil_append] at q1
  rw [q1] at e1
  subst e1
  rw [tk_pad [45] 2 m.toNat _ (by omega)] at e2
  subst e2
  rw [tk_pad [45] 2 d.toNat _ (by omega)] at e3
  subst e3
  rw [tk_pad [84] 2 h.toNat _ (by omega)] at e4
  subst e4
  rw [tk_pad [58] 2 i.toNat _ (by omega)] at e5
  subst e5
  rw [tk_pad [58] 2 s.toNat _ (by omega)] at e6
  subst e6
  rcases hc with ⟨hf, _⟩ | ⟨_, N, Z, eN, eZ, hc⟩
  · cases hf
  · simp only at eN
    rw [nano_back n z l n1 n2 n3] at eN
    subst eN
    obtain ⟨hh, mm, ez, hmm, hz⟩ := zone_back z l z1 z2
    rw [ez] at eZ
    subst eZ
    have c1 : ((y.toNat : Nat) : Int) = y := by omega
    have c2 : ((m.toNat : Nat) : Int) = m := by omega
    have c3 : ((d.toNat : Nat) : Int) = d := by omega
    have c4 : ((h.toNat : Nat) : Int) = h := by omega
    have c5 : ((i.toNat : Nat) : Int) = i := by omega
    have c6 : ((s.toNat : Nat) : Int) = s := by omega
    simp only [c1, c2, c3, c4, c5, c6, hz] at hc
    rcases hc with ⟨_, rfl, rfl, rfl, rfl, rfl, rfl, rfl, rfl, rfl, he⟩ | ⟨hno, _⟩
    · exact ⟨he, rfl, rfl, rfl, rfl, rfl, rfl, rfl, rfl, rfl⟩
    · exact absurd ⟨trivial, hmm, hr⟩ hno
end Go.Proofs.YtmmghppjhmdikaaGreatDoor.Cal
/- A date behind which a blank stands is read as the date alone. No program is spoken of. -/
namespace Go.Proofs.YtmmghppjhmdikaaGreatDoor.Cal
open Go

/-- Signs that are no blank. -/
def NoBl (sg : List UInt8) : Prop := sg = [] ∨ ∃ c, sg = [c] ∧ c ≠ 32
theorem figs_tail : ∀ (l r : List UInt8) (n : Nat), figs (l ++ 32 :: r) n = figs l n
  | _, _, 0 => by simp [figs]
  | [], r, n + 1 => by simp [figs]; decide
  | c :: l, r, n + 1 => by simp [figs, figs_tail l r n]
theorem prefix_tail {sg : List UInt8} (h : NoBl sg) (l r : List UInt8) : Lib.hasPrefix (l ++ 32 :: r) sg = Lib.hasPrefix l sg := by
  rcases h with rfl | ⟨c, rfl, hc⟩
  · cases l <;> rfl
  · cases l with
    | nil =>
      have : (c == 32) = false := beq_eq_false_iff_ne.2 hc
      show (c == 32 && List.isPrefixOf [] r) = false
      rw [this]; rfl
    | cons a l => 
      show (c == a && List.isPrefixOf [] (l ++ 32 :: r)) = (c == a && List.isPrefixOf [] l)
      simp
theorem trim_tail {sg : List UInt8} (h : NoBl sg) (l r : List UInt8) : Lib.trimPrefix (l ++ 32 :: r) sg = Lib.trimPrefix l sg ++ 32 :: r := by
  unfold Lib.trimPrefix
  rw [prefix_tail h]
  by_cases hp : Lib.hasPrefix l sg = true
  · rw [if_pos hp, if_pos hp]
    unfold Lib.hasPrefix at hp
    obtain ⟨q, rfl⟩ := List.isPrefixOf_iff_prefix.1 hp
    rw [List.append_assoc, List.drop_left', List.drop_left'] <;> rfl
  · rw [if_neg hp, if_neg hp]
theorem tk_tail {sg : List UInt8} (h : NoBl sg) (k : Nat) (l r : List UInt8) (f : Bool) : tk sg k (l ++ 32 :: r) f = ((tk sg k l f).1, (tk sg k l f).2.1 ++ 32 :: r, (tk sg k l f).2.2) := by
  unfold tk
  rw [prefix_tail h, trim_tail h, figs_tail]
  by_cases hc : (f && Lib.hasPrefix l sg && decide (figs (Lib.trimPrefix l sg) k = k)) = true
  · rw [if_pos hc, if_pos hc]
    have hk : figs (Lib.trimPrefix l sg) k = k := by
      simp only [Bool.and_eq_true, decide_eq_true_eq] at hc
      exact hc.2
    have hl := (figs_le (Lib.trimPrefix l sg) k).2
    rw [hk] at hl
    rw [List.take_append_of_le_length hl, List.drop_append_of_le_length hl]
  · rw [if_neg hc, if_neg hc]
theorem nb0 : NoBl [] := .inl rfl
theorem nb1 (c : UInt8) (h : c ≠ 32) : NoBl [c] := .inr ⟨c, rfl, h⟩
theorem nano_tail (l r : List UInt8) : nanoL (l ++ 32 :: r) = ((nanoL l).1, (nanoL l).2.1 ++ 32 :: r, (nanoL l).2.2) := by
  unfold nanoL
  rw [prefix_tail (nb1 46 (by decide)), trim_tail (nb1 46 (by decide)), figs_tail]
  split
  · simp only [tk_tail (nb1 46 (by decide))]
  · rfl
theorem zone_tail (l r : List UInt8) (f : Bool) : zoneL (l ++ 32 :: r) f = ((zoneL l f).1, (zoneL l f).2.1, (zoneL l f).2.2.1 ++ 32 :: r, (zoneL l f).2.2.2) := by
  unfold zoneL
  rw [prefix_tail (nb1 90 (by decide)), prefix_tail (nb1 45 (by decide))]
  split
  · simp only [tk_tail (nb1 90 (by decide))]
  · split
    · simp only [tk_tail (nb1 45 (by decide)), tk_tail (nb1 58 (by decide))]
    · simp only [tk_tail (nb1 43 (by decide)), tk_tail (nb1 58 (by decide))]
/-- What is told of a text is told of it with a blank and more behind. -/
theorem parsed_tail {l t : List UInt8} {y m d h i s n z err : Int} (r : List UInt8) (hp : ParsedAs l y m d h i s n z t err) :
    (err = 0 ∧ ParsedAs (l ++ 32 :: r) y m d h i s n z (t ++ 32 :: r) 0) ∨ (err = 3 ∧ ParsedAs (l ++ 32 :: r) 0 0 0 0 0 0 0 0 [] 3) := by
  obtain ⟨t1, t2, t3, t4, t5, t6, e1, e2, e3, e4, e5, e6, hc⟩ := hp
  have a1 := tk_tail nb0 4 l r true
  rw [e1] at a1
  have a2 := tk_tail (nb1 45 (by decide)) 2 t1.2.1 r t1.2.2
  rw [e2] at a2
  have a3 := tk_tail (nb1 45 (by decide)) 2 t2.2.1 r t2.2.2
  rw [e3] at a3
  have a4 := tk_tail (nb1 84 (by decide)) 2 t3.2.1 r t3.2.2
  rw [e4] at a4
  have a5 := tk_tail (nb1 58 (by decide)) 2 t4.2.1 r t4.2.2
  rw [e5] at a5
  have a6 := tk_tail (nb1 58 (by decide)) 2 t5.2.1 r t5.2.2
  rw [e6] at a6
  rcases hc with ⟨h6, rfl, rfl, rfl, rfl, rfl, rfl, rfl, rfl, rfl, rfl⟩ | ⟨h6, N, Z, eN, eZ, hc⟩
  · exact .inr ⟨rfl, _, _, _, _, _, _, a1, a2, a3, a4, a5, a6, .inl ⟨h6, rfl, rfl, rfl, rfl, rfl, rfl, rfl, rfl, rfl, rfl⟩⟩
  · have a7 := nano_tail t6.2.1 r
    rw [eN] at a7
    have a8 := zone_tail N.2.1 r N.2.2
    rw [eZ] at a8
    rcases hc with ⟨hr, rfl, rfl, rfl, rfl, rfl, rfl, rfl, rfl, rfl, rfl⟩ | ⟨hr, rfl, rfl, rfl, rfl, rfl, rfl, rfl, rfl, rfl, rfl⟩
    · exact .inl ⟨rfl, _, _, _, _, _, _, a1, a2, a3, a4, a5, a6, .inr ⟨h6, _, _, a7, a8, .inl ⟨hr, rfl, rfl, rfl, rfl, rfl, rfl, rfl, rfl, rfl, rfl⟩⟩⟩
    · exact .inr ⟨rfl, _, _, _, _, _, _, a1, a2, a3, a4, a5, a6, .inr ⟨h6, _, _, a7, a8, .inr ⟨hr, rfl, rfl, rfl, rfl, rfl, rfl, rfl, rfl, rfl, rfl⟩⟩⟩
/-- Every text tells something. -/
theorem parsed_all (l : List UInt8) : ∃ (y m d h i s n z : Int) (t : List UInt8) (err : Int), ParsedAs l y m d h i s n z t err := by
  obtain ⟨t1, e1⟩ : ∃ x, tk [] 4 l true = x := ⟨_, rfl⟩
  obtain ⟨t2, e2⟩ : ∃ x, tk [45] 2 t1.2.1 t1.2.2 = x := ⟨_, rfl⟩
  obtain ⟨t3, e3⟩ : ∃ x, tk [45] 2 t2.2.1 t2.2.2 = x := ⟨_, rfl⟩
  obtain ⟨t4, e4⟩ : ∃ x, tk [84] 2 t3.2.1 t3.2.2 = x := ⟨_, rfl⟩
  obtain ⟨t5, e5⟩ : ∃ x, tk [58] 2 t4.2.1 t4.2.2 = x := ⟨_, rfl⟩
  obtain ⟨t6, e6⟩ : ∃ x, tk [58] 2 t5.2.1 t5.2.2 = x := ⟨_, rfl⟩
  by_cases h6 : t6.2.2 = true
  · obtain ⟨N, eN⟩ : ∃ x, nanoL t6.2.1 = x := ⟨_, rfl⟩
    obtain ⟨Z, eZ⟩ : ∃ x, zoneL N.2.1 N.2.2 = x := ⟨_, rfl⟩
    by_cases hr : Z.2.2.2 = true ∧ (-59 ≤ Z.2.1 ∧ Z.2.1 ≤ 59) ∧ rightB t1.1 t2.1 t3.1 t4.1 t5.1 t6.1 N.1 (Z.1 * 60 + Z.2.1) = true
    · exact ⟨_, _, _, _, _, _, _, _, _, _, t1, t2, t3, t4, t5, t6, e1, e2, e3, e4, e5, e6, .inr ⟨h6, N, Z, eN, eZ, .inl ⟨hr, rfl, rfl, rfl, rfl, rfl, rfl, rfl, rfl, rfl, rfl⟩⟩⟩
    · exact ⟨_, _, _, _, _, _, _, _, _, _, t1, t2, t3, t4, t5, t6, e1, e2, e3, e4, e5, e6, .inr ⟨h6, N, Z, eN, eZ, .inr ⟨hr, rfl, rfl, rfl, rfl, rfl, rfl, rfl, rfl, rfl, rfl⟩⟩⟩
  · exact ⟨_, _, _, _, _, _, _, _, _, _, t1, t2, t3, t4, t5, t6, e1, e2, e3, e4, e5, e6, .inl ⟨by simpa using h6, rfl, rfl, rfl, rfl, rfl, rfl, rfl, rfl, rfl, rfl⟩⟩
end Go.Proofs.YtmmghppjhmdikaaGreatDoor.Cal
/- What the document's own readers answer: whether a byte is at a place, and the number of so many figures from a place on. No conditions but on sizes. -/
namespace Go.Proofs.YtmmghppjhmdikaaGreatDoor.Cal
open Go.ChangeShapes Go.WideShapes Go.ChangeAt Go.RowKit

theorem figs_iff (l : List UInt8) (k : Nat) : figs l k = k ↔ k ≤ l.length ∧ ∀ c ∈ l.take k, isDig c = true := by
  constructor
  · intro h
    exact ⟨by have := (figs_le l k).2; omega, figs_all l k (by omega)⟩
  · rintro ⟨h1, h2⟩
    have e := figs_front (l.take k) (l.drop k) h2
    rw [List.take_append_drop, List.length_take, Nat.min_eq_left h1] at e
    exact e
def isAt (l : List UInt8) (p : Nat) (c : UInt8) : Bool := decide (l[p]? = some c)
def numAt (l : List UInt8) (p k : Nat) : Int := if figs (l.drop p) k = k then numOf ((l.drop p).take k) else -1
theorem get_at (s : ByteArray) (p : Nat) (h : p < s.size) : s.data.toList[p]? = some s[p] := by
  rw [List.getElem?_eq_getElem (by rw [Array.length_toList]; exact h)]
  rfl
theorem byte_eq (a c : UInt8) : (((a.toNat : Nat) : Int) == ((c.toNat : Nat) : Int)) = decide (a = c) := by
  rw [Bool.eq_iff_iff, beq_iff_eq, decide_eq_true_iff]
  constructor
  · intro h; exact UInt8.toNat_inj.1 (by omega)
  · rintro rfl; rfl
theorem ris_any (s : ByteArray) (p : Nat) (c : UInt8) (w : World) :
    Calls Tryz.prog 20 #[.string s, .int .i64 p, .int .u8 ((c.toNat : Nat) : Int)] w fun e w' => e = .returned (.bool (isAt s.data.toList p c)) ∧ w' = w := by
  by_cases h : p < s.size
  · have e : isAt s.data.toList p c = (((s[p].toNat : Nat) : Int) == ((c.toNat : Nat) : Int)) := by rw [byte_eq]; unfold isAt; rw [get_at s p h]; simp
    have HE := Lib.hid e
    clear e
    go_enter Tryz.func20, Tryz.ntmps20
    go_wp2
    go_ret
    exact ⟨by rw [HE.out]; rfl, rfl⟩
  · have e : isAt s.data.toList p c = false := by
      unfold isAt
      rw [List.getElem?_eq_none (by rw [Array.length_toList]; change s.size ≤ p; omega)]
      simp
    rw [e]
    clear e
    go_enter Tryz.func20, Tryz.ntmps20
    go_wp2
    go_ret
    exact ⟨rfl, rfl⟩
theorem drop_get (s : ByteArray) (p j : Nat) (h : p + j < s.size) : (s.data.toList.drop p).take (j + 1) = (s.data.toList.drop p).take j ++ [s[p + j]] := by
  have hl : j < (s.data.toList.drop p).length := by rw [List.length_drop, Array.length_toList]; change j < s.size - p; omega
  rw [List.take_succ_eq_append_getElem hl]
  simp only [List.getElem_drop]
  rfl
set_option maxHeartbeats 1000000 in
theorem rnum_any (s : ByteArray) (p k : Nat) (w : World) (hs : s.size ≤ 9223372036854775807) (hp : p ≤ 100) (hk : k ≤ 6) :
    Calls Tryz.prog 19 #[.string s, .int .i64 p, .int .i64 k] w fun e w' => e = .returned (.int .i64 (numAt s.data.toList p k)) ∧ w' = w := by
  go_enter Tryz.func19, Tryz.ntmps19
  go_wp2
  go_loop [7, 8] (fun v i => ∃ j : Nat, j ≤ k ∧ i = .int .i64 ((p : Int) + j) ∧ v = .int .i64 (numOf ((s.data.toList.drop p).take j)) ∧ figs (s.data.toList.drop p) j = j) (fun _ i => (p + k) - (intOf i).toNat)
  case atStart => exact ⟨0, by omega, by simp, rfl, by unfold figs; rfl⟩
  case round =>
    obtain ⟨j, j1, rfl, rfl, hj⟩ := hrel
    have HJ := Lib.hid hj
    clear hj
    by_cases hlt : j < k
    · by_cases hin : p + j < s.size
      · have hidx : ((p : Int) + (j : Int)).toNat = p + j := by omega
        have hb := numOf_bd ((s.data.toList.drop p).take j) ((figs_iff _ _).1 HJ.out).2
        have hl : ((s.data.toList.drop p).take j).length = j := by rw [List.length_take]; have := ((figs_iff _ _).1 HJ.out).1; omega
        rw [hl] at hb
        have hp10 : (10 : Int) ^ j ≤ 1000000 := by
          have : 10 ^ j ≤ 10 ^ 6 := Nat.pow_le_pow_right (by decide) (by omega)
          have e : (10 : Int) ^ j = ((10 ^ j : Nat) : Int) := by simp
          rw [e]; omega
        obtain ⟨b1, b2⟩ := hb
        have b3 : numOf ((s.data.toList.drop p).take j) ≤ 1000000 := by omega
        clear b2 hp10 hl
        by_cases hc : 48 ≤ ((s[p + j]).toNat : Int) ∧ ((s[p + j]).toNat : Int) ≤ 57
        · obtain ⟨c1, c2⟩ := hc
          have HN := Lib.hid (show figs (s.data.toList.drop p) (j + 1) = j + 1 by
            rw [figs_iff]
            refine ⟨by rw [List.length_drop, Array.length_toList]; change j + 1 ≤ s.size - p; omega, ?_⟩
            rw [drop_get s p j hin]
            intro c hcm
            rw [List.mem_append, List.mem_singleton] at hcm
            rcases hcm with hcm | rfl
            · exact ((figs_iff _ _).1 HJ.out).2 c hcm
            · exact decide_eq_true ⟨c1, c2⟩)
          have HV := Lib.hid (show numOf ((s.data.toList.drop p).take (j + 1)) = 10 * numOf ((s.data.toList.drop p).take j) + (((s[p + j]).toNat : Int) - 48) by rw [drop_get s p j hin, numOf_snoc])
          generalize numOf ((s.data.toList.drop p).take j) = V at b1 b3 HV ⊢
          go_wp2
          go_round
          case rel => exact ⟨j + 1, by omega, by go_num, by rw [HV.out], HN.out⟩
          case measure => simp [intOf]; omega
        · have HE := Lib.hid (show numAt s.data.toList p k = -1 by
            unfold numAt
            rw [if_neg]
            intro hf
            have hx := ((figs_iff _ _).1 hf).2 s[p + j] (by
              have : s[p + j] ∈ (s.data.toList.drop p).take (j + 1) := by rw [drop_get s p j hin]; simp
              exact List.mem_of_mem_take (i := j + 1) (by rw [List.take_take, Nat.min_eq_left (by omega)]; exact this))
            exact hc (of_decide_eq_true hx))
          generalize numOf ((s.data.toList.drop p).take j) = V at b1 b3 ⊢
          rcases (show ((s[p + j]).toNat : Int) < 48 ∨ (48 ≤ ((s[p + j]).toNat : Int) ∧ 57 < ((s[p + j]).toNat : Int)) by omega) with h | ⟨h, h'⟩
          all_goals
            clear hc
            go_wp2
            go_ret
            exact ⟨by rw [HE.out]; rfl, rfl⟩
      · have HE := Lib.hid (show numAt s.data.toList p k = -1 by
          unfold numAt
          rw [if_neg]
          intro hf
          have := ((figs_iff _ _).1 hf).1
          rw [List.length_drop, Array.length_toList] at this
          change k ≤ s.size - p at this
          omega)
        generalize numOf ((s.data.toList.drop p).take j) = V
        go_wp2
        go_ret
        exact ⟨by rw [HE.out]; rfl, rfl⟩
    · obtain rfl : j = k := by omega
      have HE := Lib.hid (show numAt s.data.toList p j = numOf ((s.data.toList.drop p).take j) by unfold numAt; rw [if_pos HJ.out])
      go_wp2
      go_ret
      exact ⟨by rw [HE.out]; rfl, rfl⟩
end Go.Proofs.YtmmghppjhmdikaaGreatDoor.Cal
/- What the document's own Parse answers, as a function of a list of bytes; it is what cal.Parse tells of it. No program is spoken of. -/
namespace Go.Proofs.YtmmghppjhmdikaaGreatDoor.Cal
open Go

abbrev R10 := Int × Int × Int × Int × Int × Int × Int × Int × List UInt8 × Int
def wrongR : R10 := (0, 0, 0, 0, 0, 0, 0, 0, [], 3)
def marksR (l : List UInt8) : Bool := isAt l 4 45 && isAt l 7 45 && isAt l 10 84 && isAt l 13 58 && isAt l 16 58
def nanoN (l : List UInt8) (k : Nat) : Int := numOf ((l.drop 20).take k) * ((10 ^ (9 - k) : Nat) : Int)
def nanoR (l : List UInt8) : Option (Int × Nat) :=
  if isAt l 19 46 = true then (if figs (l.drop 20) 6 = 0 then none else some (nanoN l (figs (l.drop 20) 6), 20 + figs (l.drop 20) 6)) else some (0, 19)
def zoneR (l : List UInt8) (p : Nat) : Option (Int × Nat) :=
  if isAt l p 90 = true then some (0, p + 1)
  else if ((isAt l p 43 || isAt l p 45) && isAt l (p + 3) 58 && (decide (0 ≤ numAt l (p + 1) 2) && decide (numAt l (p + 1) 2 ≤ 23)) && (decide (0 ≤ numAt l (p + 4) 2) && decide (numAt l (p + 4) 2 ≤ 59))) = true then
    some (if isAt l p 45 = true then -(60 * numAt l (p + 1) 2 + numAt l (p + 4) 2) else 60 * numAt l (p + 1) 2 + numAt l (p + 4) 2, p + 6)
  else none
def rp (l : List UInt8) : R10 :=
  if marksR l = true then
    match nanoR l with
    | none => wrongR
    | some (n, p) => match zoneR l p with
      | none => wrongR
      | some (z, q) => if rightB (numAt l 0 4) (numAt l 5 2) (numAt l 8 2) (numAt l 11 2) (numAt l 14 2) (numAt l 17 2) n z = true then
          (numAt l 0 4, numAt l 5 2, numAt l 8 2, numAt l 11 2, numAt l 14 2, numAt l 17 2, n, z, l.drop q, 0) else wrongR
  else wrongR

/-! ### what is taken at a place -/
theorem numAt_ok (l : List UInt8) (p k : Nat) : 0 ≤ numAt l p k ↔ figs (l.drop p) k = k := by
  unfold numAt
  split
  · rename_i h
    have := (numOf_bd _ ((figs_iff _ _).1 h).2).1
    exact ⟨fun _ => h, fun _ => this⟩
  · rename_i h
    exact ⟨fun h' => by omega, fun h' => absurd h' h⟩
theorem hasPrefix_at (l : List UInt8) (p : Nat) (c : UInt8) : Lib.hasPrefix (l.drop p) [c] = isAt l p c := by
  unfold isAt Lib.hasPrefix
  rw [← List.head?_drop]
  cases l.drop p with
  | nil => simp
  | cons a t => simp [List.isPrefixOf, eq_comm, Bool.beq_eq_decide_eq]
theorem trim_at (l : List UInt8) (p : Nat) (c : UInt8) (h : isAt l p c = true) : Lib.trimPrefix (l.drop p) [c] = l.drop (p + 1) := by
  unfold Lib.trimPrefix
  rw [if_pos (by rw [hasPrefix_at]; exact h)]
  simp [List.drop_drop]
theorem tk_yes (l : List UInt8) (p k : Nat) (c : UInt8) (h : isAt l p c = true) (hn : 0 ≤ numAt l (p + 1) k) :
    tk [c] k (l.drop p) true = (numAt l (p + 1) k, l.drop (p + 1 + k), true) := by
  have hf := (numAt_ok ..).1 hn
  unfold tk numAt
  rw [hasPrefix_at, h, trim_at l p c h, hf]
  simp [List.drop_drop]
theorem tk_no (l : List UInt8) (p k : Nat) (c : UInt8) (h : ¬ (isAt l p c = true ∧ 0 ≤ numAt l (p + 1) k)) : (tk [c] k (l.drop p) true).2.2 = false := by
  unfold tk
  rw [hasPrefix_at]
  split
  · rename_i hc
    simp only [Bool.and_eq_true, decide_eq_true_iff] at hc
    rw [trim_at l p c hc.1.2] at hc
    exact absurd ⟨hc.1.2, (numAt_ok ..).2 hc.2⟩ h
  · rfl
theorem tk_yes0 (l : List UInt8) (k : Nat) (hn : 0 ≤ numAt l 0 k) : tk [] k l true = (numAt l 0 k, l.drop k, true) := by
  have hf := (numAt_ok ..).1 hn
  unfold tk numAt
  rw [List.drop_zero] at hf ⊢
  have e : Lib.trimPrefix l [] = l := by unfold Lib.trimPrefix; split <;> simp
  have e2 : Lib.hasPrefix l [] = true := by unfold Lib.hasPrefix; simp
  rw [e, e2, hf]
  simp
theorem tk_no0 (l : List UInt8) (k : Nat) (h : ¬ 0 ≤ numAt l 0 k) : (tk [] k l true).2.2 = false := by
  unfold tk
  have e : Lib.trimPrefix l [] = l := by unfold Lib.trimPrefix; split <;> simp
  rw [e]
  split
  · rename_i hc
    simp only [Bool.and_eq_true, decide_eq_true_iff] at hc
    exact absurd ((numAt_ok ..).2 (by rw [List.drop_zero]; exact hc.2)) h
  · rfl
theorem tk_stays (sg : List UInt8) (k : Nat) (t : T3) (h : t.2.2 = false) : (tk sg k t.2.1 t.2.2).2.2 = false := by rw [h, tk_false]

/-- Do the first six numbers and the marks between them fit? -/
def sixR (l : List UInt8) : Bool := marksR l && (decide (0 ≤ numAt l 0 4) && (decide (0 ≤ numAt l 5 2) && (decide (0 ≤ numAt l 8 2) && (decide (0 ≤ numAt l 11 2) && (decide (0 ≤ numAt l 14 2) && decide (0 ≤ numAt l 17 2))))))
theorem six_not_right (l : List UInt8) (n z : Int) (hm : marksR l = true) (h : ¬ sixR l = true) :
    rightB (numAt l 0 4) (numAt l 5 2) (numAt l 8 2) (numAt l 11 2) (numAt l 14 2) (numAt l 17 2) n z = false := by
  rw [← Bool.not_eq_true]
  intro hr
  obtain ⟨⟨y1, y2⟩, ⟨d1, d2⟩, ⟨h1, h2⟩, ⟨i1, i2⟩, ⟨s1, s2⟩, _⟩ := (right_iff ..).1 hr
  obtain ⟨m1, m2⟩ := month_of_day d1 d2
  apply h
  unfold sixR
  simp only [hm, Bool.true_and, Bool.and_eq_true, decide_eq_true_iff]
  omega
theorem rp_wrong (l : List UInt8) (h : ¬ sixR l = true) : rp l = wrongR := by
  unfold rp
  by_cases hm : marksR l = true
  · rw [if_pos hm]
    split
    · rfl
    · split
      · rfl
      · rw [six_not_right l _ _ hm h]; rfl
  · rw [if_neg hm]
theorem six_takes (l : List UInt8) (t1 t2 t3 t4 t5 t6 : T3) (e1 : tk [] 4 l true = t1) (e2 : tk [45] 2 t1.2.1 t1.2.2 = t2) (e3 : tk [45] 2 t2.2.1 t2.2.2 = t3) (e4 : tk [84] 2 t3.2.1 t3.2.2 = t4) (e5 : tk [58] 2 t4.2.1 t4.2.2 = t5) (e6 : tk [58] 2 t5.2.1 t5.2.2 = t6) :
    (sixR l = true ∧ t1.1 = numAt l 0 4 ∧ t2.1 = numAt l 5 2 ∧ t3.1 = numAt l 8 2 ∧ t4.1 = numAt l 11 2 ∧ t5.1 = numAt l 14 2 ∧ t6.1 = numAt l 17 2 ∧ t6.2.1 = l.drop 19 ∧ t6.2.2 = true) ∨ (¬ sixR l = true ∧ t6.2.2 = false) := by
  have six : sixR l = true ↔ (isAt l 4 45 = true ∧ isAt l 7 45 = true ∧ isAt l 10 84 = true ∧ isAt l 13 58 = true ∧ isAt l 16 58 = true) ∧ 0 ≤ numAt l 0 4 ∧ 0 ≤ numAt l 5 2 ∧ 0 ≤ numAt l 8 2 ∧ 0 ≤ numAt l 11 2 ∧ 0 ≤ numAt l 14 2 ∧ 0 ≤ numAt l 17 2 := by
    unfold sixR marksR
    simp only [Bool.and_eq_true, decide_eq_true_iff]
    simp only [and_assoc]
  rw [six]
  by_cases h1 : 0 ≤ numAt l 0 4
  · rw [tk_yes0 l 4 h1] at e1
    subst e1
    by_cases h2 : isAt l 4 45 = true ∧ 0 ≤ numAt l 5 2
    · rw [tk_yes l 4 2 45 h2.1 h2.2] at e2
      subst e2
      by_cases h3 : isAt l 7 45 = true ∧ 0 ≤ numAt l 8 2
      · rw [tk_yes l 7 2 45 h3.1 h3.2] at e3
        subst e3
        by_cases h4 : isAt l 10 84 = true ∧ 0 ≤ numAt l 11 2
        · rw [tk_yes l 10 2 84 h4.1 h4.2] at e4
          subst e4
          by_cases h5 : isAt l 13 58 = true ∧ 0 ≤ numAt l 14 2
          · rw [tk_yes l 13 2 58 h5.1 h5.2] at e5
            subst e5
            by_cases h6 : isAt l 16 58 = true ∧ 0 ≤ numAt l 17 2
            · rw [tk_yes l 16 2 58 h6.1 h6.2] at e6
              subst e6
              exact .inl ⟨⟨⟨h2.1, h3.1, h4.1, h5.1, h6.1⟩, h1, h2.2, h3.2, h4.2, h5.2, h6.2⟩, rfl, rfl, rfl, rfl, rfl, rfl, rfl, rfl⟩
            · exact .inr ⟨fun h => h6 ⟨h.1.2.2.2.2, h.2.2.2.2.2.2⟩, by rw [← e6]; exact tk_no l 16 2 58 h6⟩
          · have f5 : t5.2.2 = false := by rw [← e5]; exact tk_no l 13 2 58 h5
            exact .inr ⟨fun h => h5 ⟨h.1.2.2.2.1, h.2.2.2.2.2.1⟩, by rw [← e6]; exact tk_stays _ _ _ f5⟩
        · have f4 : t4.2.2 = false := by rw [← e4]; exact tk_no l 10 2 84 h4
          have f5 : t5.2.2 = false := by rw [← e5]; exact tk_stays _ _ _ f4
          exact .inr ⟨fun h => h4 ⟨h.1.2.2.1, h.2.2.2.2.1⟩, by rw [← e6]; exact tk_stays _ _ _ f5⟩
      · have f3 : t3.2.2 = false := by rw [← e3]; exact tk_no l 7 2 45 h3
        have f4 : t4.2.2 = false := by rw [← e4]; exact tk_stays _ _ _ f3
        have f5 : t5.2.2 = false := by rw [← e5]; exact tk_stays _ _ _ f4
        exact .inr ⟨fun h => h3 ⟨h.1.2.1, h.2.2.2.1⟩, by rw [← e6]; exact tk_stays _ _ _ f5⟩
    · have f2 : t2.2.2 = false := by rw [← e2]; exact tk_no l 4 2 45 h2
      have f3 : t3.2.2 = false := by rw [← e3]; exact tk_stays _ _ _ f2
      have f4 : t4.2.2 = false := by rw [← e4]; exact tk_stays _ _ _ f3
      have f5 : t5.2.2 = false := by rw [← e5]; exact tk_stays _ _ _ f4
      exact .inr ⟨fun h => h2 ⟨h.1.1, h.2.2.1⟩, by rw [← e6]; exact tk_stays _ _ _ f5⟩
  · have f1 : t1.2.2 = false := by rw [← e1]; exact tk_no0 l 4 h1
    have f2 : t2.2.2 = false := by rw [← e2]; exact tk_stays _ _ _ f1
    have f3 : t3.2.2 = false := by rw [← e3]; exact tk_stays _ _ _ f2
    have f4 : t4.2.2 = false := by rw [← e4]; exact tk_stays _ _ _ f3
    have f5 : t5.2.2 = false := by rw [← e5]; exact tk_stays _ _ _ f4
    exact .inr ⟨fun h => h1 h.2.1, by rw [← e6]; exact tk_stays _ _ _ f5⟩

/-! ### the figures behind a point, and the zone -/
theorem figs_pos_one (l : List UInt8) : figs l 1 = 1 ↔ figs l 6 ≠ 0 := by
  cases l with
  | nil => simp [figs]
  | cons c t => simp only [figs]; split <;> simp
theorem figs_self : ∀ (l : List UInt8) (n : Nat), figs l (figs l n) = figs l n
  | l, 0 => by cases l <;> simp [figs]
  | [], _ + 1 => by simp [figs]
  | c :: l, n + 1 => by
    by_cases h : isDig c = true
    · simp only [figs, if_pos h]
      rw [figs_self l n]
    · simp only [figs, if_neg h]
theorem nano_agree (l : List UInt8) :
    (∃ n p, nanoR l = some (n, p) ∧ nanoL (l.drop 19) = (n, l.drop p, true)) ∨ (nanoR l = none ∧ (nanoL (l.drop 19)).2.2 = false) := by
  unfold nanoR nanoL
  rw [hasPrefix_at]
  by_cases hp : isAt l 19 46 = true
  · rw [if_pos hp, if_pos hp, trim_at l 19 46 hp]
    show _ ∨ _
    by_cases h0 : figs (l.drop 20) 6 = 0
    · rw [if_pos h0]
      refine .inr ⟨rfl, ?_⟩
      simp only [h0]
      have : (tk [46] (max 1 0) (l.drop 19) true).2.2 = false := tk_no l 19 1 46 (by
        rintro ⟨_, h⟩
        have := (numAt_ok ..).1 h
        exact (figs_pos_one _).1 this h0)
      exact this
    · rw [if_neg h0]
      refine .inl ⟨_, _, rfl, ?_⟩
      have e : max 1 (figs (l.drop 20) 6) = figs (l.drop 20) 6 := by omega
      simp only [e]
      have hs := figs_self (l.drop 20) 6
      have hn : 0 ≤ numAt l (19 + 1) (figs (l.drop 20) 6) := (numAt_ok ..).2 hs
      rw [tk_yes l 19 _ 46 hp hn]
      unfold nanoN numAt
      rw [if_pos hs]
  · rw [if_neg hp, if_neg hp]
    exact .inl ⟨_, _, rfl, rfl⟩
theorem numAt_two (l : List UInt8) (p : Nat) : numAt l p 2 ≤ 99 := by
  unfold numAt
  split
  · rename_i h
    have := (numOf_bd _ ((figs_iff _ _).1 h).2).2
    have hl : ((l.drop p).take 2).length = 2 := by rw [List.length_take]; have := ((figs_iff _ _).1 h).1; omega
    rw [hl] at this
    omega
  · omega
theorem zone_agree (l : List UInt8) (p : Nat) (ok : Int → Prop) (hok : ∀ z, ok z → -1439 ≤ z ∧ z ≤ 1439) :
    (∃ z q, zoneR l p = some (z, q) ∧ (zoneL (l.drop p) true).2.2.2 = true ∧ -59 ≤ (zoneL (l.drop p) true).2.1 ∧ (zoneL (l.drop p) true).2.1 ≤ 59 ∧ (zoneL (l.drop p) true).1 * 60 + (zoneL (l.drop p) true).2.1 = z ∧ (zoneL (l.drop p) true).2.2.1 = l.drop q) ∨
    (zoneR l p = none ∧ ¬ ((zoneL (l.drop p) true).2.2.2 = true ∧ (-59 ≤ (zoneL (l.drop p) true).2.1 ∧ (zoneL (l.drop p) true).2.1 ≤ 59) ∧ ok ((zoneL (l.drop p) true).1 * 60 + (zoneL (l.drop p) true).2.1))) := by
  unfold zoneR zoneL
  rw [hasPrefix_at, hasPrefix_at]
  have b1 := numAt_two l (p + 1)
  have b2 := numAt_two l (p + 4)
  by_cases hz : isAt l p 90 = true
  · rw [if_pos hz, if_pos hz]
    have e : tk [90] 0 (l.drop p) true = (numAt l (p + 1) 0, l.drop (p + 1 + 0), true) := tk_yes l p 0 90 hz ((numAt_ok ..).2 (by unfold figs; rfl))
    rw [e]
    exact .inl ⟨_, _, rfl, rfl, by show (-59 : Int) ≤ 0; omega, by show (0 : Int) ≤ 59; omega, rfl, rfl⟩
  · rw [if_neg hz, if_neg hz]
    by_cases hm : isAt l p 45 = true
    · rw [if_pos hm]
      simp only [hm, Bool.or_true, Bool.true_and, if_true]
      by_cases h1 : 0 ≤ numAt l (p + 1) 2
      · rw [tk_yes l p 2 45 hm h1]
        simp only
        by_cases h2 : isAt l (p + 3) 58 = true ∧ 0 ≤ numAt l (p + 4) 2
        · rw [tk_yes l (p + 1 + 2) 2 58 h2.1 h2.2]
          simp only [h2.1, Bool.true_and, h1, h2.2, decide_true]
          split
          · rename_i hc
            simp only [Bool.and_eq_true, decide_eq_true_iff] at hc
            have e4 : numAt l (p + 1 + 2 + 1) 2 = numAt l (p + 4) 2 := rfl
            exact .inl ⟨_, _, rfl, trivial, by omega, by omega, by omega, rfl⟩
          · rename_i hc
            simp only [Bool.and_eq_true, decide_eq_true_iff] at hc
            refine .inr ⟨rfl, ?_⟩
            rintro ⟨_, _, hk⟩
            have := hok _ hk
            have : numAt l (p + 1 + 2 + 1) 2 = numAt l (p + 4) 2 := rfl
            omega
        · have hn := tk_no l (p + 1 + 2) 2 58 h2
          rw [if_neg (by
            simp only [Bool.and_eq_true, decide_eq_true_iff]
            rintro ⟨⟨a, _⟩, b, _⟩
            exact h2 ⟨a, b⟩)]
          refine .inr ⟨rfl, ?_⟩
          rintro ⟨hx, _⟩
          rw [hn] at hx
          cases hx
      · have hn := tk_no l p 2 45 (fun h => h1 h.2)
        rw [if_neg (by simp only [Bool.and_eq_true, decide_eq_true_iff]; rintro ⟨⟨_, b, _⟩, _⟩; exact h1 b)]
        refine .inr ⟨rfl, ?_⟩
        rintro ⟨hx, _⟩
        rw [tk_stays [58] 2 _ hn] at hx
        cases hx
    · rw [if_neg hm]
      simp only [hm, Bool.or_false, Bool.false_eq_true, if_false]
      by_cases h1 : isAt l p 43 = true ∧ 0 ≤ numAt l (p + 1) 2
      · rw [tk_yes l p 2 43 h1.1 h1.2]
        simp only
        by_cases h2 : isAt l (p + 3) 58 = true ∧ 0 ≤ numAt l (p + 4) 2
        · rw [tk_yes l (p + 1 + 2) 2 58 h2.1 h2.2]
          simp only [h1.1, h2.1, Bool.true_and, h1.2, h2.2, decide_true]
          split
          · rename_i hc
            simp only [Bool.and_eq_true, decide_eq_true_iff] at hc
            have e4 : numAt l (p + 1 + 2 + 1) 2 = numAt l (p + 4) 2 := rfl
            exact .inl ⟨_, _, rfl, trivial, by omega, by omega, by omega, rfl⟩
          · rename_i hc
            simp only [Bool.and_eq_true, decide_eq_true_iff] at hc
            refine .inr ⟨rfl, ?_⟩
            rintro ⟨_, _, hk⟩
            have := hok _ hk
            have : numAt l (p + 1 + 2 + 1) 2 = numAt l (p + 4) 2 := rfl
            omega
        · have hn := tk_no l (p + 1 + 2) 2 58 h2
          rw [if_neg (by
            simp only [Bool.and_eq_true, decide_eq_true_iff]
            rintro ⟨⟨⟨_, a⟩, _⟩, b, _⟩
            exact h2 ⟨a, b⟩)]
          refine .inr ⟨rfl, ?_⟩
          rintro ⟨hx, _⟩
          rw [hn] at hx
          cases hx
      · have hn := tk_no l p 2 43 h1
        rw [if_neg (by simp only [Bool.and_eq_true, decide_eq_true_iff]; rintro ⟨⟨⟨a, _⟩, b, _⟩, _⟩; exact h1 ⟨a, b⟩)]
        refine .inr ⟨rfl, ?_⟩
        rintro ⟨hx, _⟩
        rw [tk_stays [58] 2 _ hn] at hx
        cases hx
theorem nanoL_false_zone (r : List UInt8) : (zoneL r false).2.2.2 = false := by
  unfold zoneL
  split
  · simp [tk_false]
  · split <;> simp [tk_false]
/-- What cal.Parse tells is what the document's own Parse does. -/
theorem parsed_ref {l t : List UInt8} {y m d h i s n z err : Int} (hp : ParsedAs l y m d h i s n z t err) : rp l = (y, m, d, h, i, s, n, z, t, err) := by
  obtain ⟨t1, t2, t3, t4, t5, t6, e1, e2, e3, e4, e5, e6, hc⟩ := hp
  rcases six_takes l t1 t2 t3 t4 t5 t6 e1 e2 e3 e4 e5 e6 with ⟨h6, q1, q2, q3, q4, q5, q6, q7, q8⟩ | ⟨h6, q8⟩
  · have hm : marksR l = true := by
      unfold sixR at h6
      rw [Bool.and_eq_true] at h6
      exact h6.1
    rcases hc with ⟨hf, _⟩ | ⟨_, N, Z, eN, eZ, hc⟩
    · rw [q8] at hf; cases hf
    · unfold rp
      rw [if_pos hm]
      rw [q7] at eN
      rcases nano_agree l with ⟨n', p, en, el⟩ | ⟨en, el⟩
      · rw [el] at eN
        subst eN
        rw [en]
        simp only at eZ hc ⊢
        rw [q1, q2, q3, q4, q5, q6] at hc
        subst eZ
        rcases zone_agree l p (fun z => rightB (numAt l 0 4) (numAt l 5 2) (numAt l 8 2) (numAt l 11 2) (numAt l 14 2) (numAt l 17 2) n' z = true) (fun z hz => ((right_iff ..).1 hz).2.2.2.2.2.2.2) with ⟨z', q, ez, c1, c2, c3, c4, c5⟩ | ⟨ez, hno⟩
        · rw [ez]
          simp only
          rw [c4, c5] at hc
          rcases hc with ⟨⟨_, _, hr⟩, rfl, rfl, rfl, rfl, rfl, rfl, rfl, rfl, rfl, rfl⟩ | ⟨hno, rfl, rfl, rfl, rfl, rfl, rfl, rfl, rfl, rfl, rfl⟩
          · rw [if_pos hr]
          · rw [if_neg (fun hr => hno ⟨c1, ⟨c2, c3⟩, hr⟩)]
            rfl
        · rw [ez]
          simp only
          rcases hc with ⟨hyes, _⟩ | ⟨_, rfl, rfl, rfl, rfl, rfl, rfl, rfl, rfl, rfl, rfl⟩
          · exact absurd hyes hno
          · rfl
      · rw [en]
        simp only
        have hN : N.2.2 = false := by rw [← eN]; exact el
        rw [hN] at eZ
        have hZ : Z.2.2.2 = false := by rw [← eZ]; exact nanoL_false_zone _
        rcases hc with ⟨⟨hx, _⟩, _⟩ | ⟨_, rfl, rfl, rfl, rfl, rfl, rfl, rfl, rfl, rfl, rfl⟩
        · rw [hZ] at hx; cases hx
        · rfl
  · rw [rp_wrong l h6]
    rcases hc with ⟨_, rfl, rfl, rfl, rfl, rfl, rfl, rfl, rfl, rfl, rfl⟩ | ⟨hf, _⟩
    · rfl
    · rw [q8] at hf; cases hf
end Go.Proofs.YtmmghppjhmdikaaGreatDoor.Cal
