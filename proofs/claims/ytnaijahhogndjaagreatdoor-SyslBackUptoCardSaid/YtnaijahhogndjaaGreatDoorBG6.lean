/- The texts Shelf2, CalRead, CalTake, CalParsed, one behind the other. -/
import Derived.Shelf.Strings.OnBuilder
import Derived.Shelf.LaysM
import Derived.Shelf.Strconv.Itoa3
import Derived.Shelf.Strings.Repeat
import Derived.Test.YtnaijahhogndjaaGreatDoorProg
import Derived.Test.YtnaijahhogndjaaGreatDoorBG1
import Derived.Test.YtnaijahhogndjaaGreatDoorBG26
import Derived.Test.YtnaijahhogndjaaGreatDoorBG3
/- What three functions of the library more answer at this program (strings.Join, Repeat, strconv.Itoa): the library's contracts, laid at its numbers (by the guide's tool, in plain words). -/
namespace Go.Proofs
open Go.Shelf
def Tryz.lays156_ren : Go.Shelf.Ren := ⟨fun | 156 => 65 | 165 => 92 | 166 => 93 | 169 => 94 | 240 => 125 | 241 => 126 | 276 => 158 | 277 => 159 | n => n, fun | 31 => 91 | 9 => 9 | 3 => 3 | 4 => 4 | 0 => 0 | 20 => 20 | 72 => 130 | 76 => 117 | 70 => 128 | 37 => 47 | 75 => 116 | 127 => 150 | 164 => 176 | 5 => 5 | 80 => 79 | n => n, fun | n => n⟩
theorem Tryz.lays156 : Go.Proofs.Lays.n156 Tryz.prog Tryz.lays156_ren := {
  mixed := by kernel_rfl
  f156 := Tryz.func65.trans (congrArg some (by kernel_rfl))
  f165 := Tryz.func92.trans (congrArg some (by kernel_rfl))
  f166 := Tryz.func93.trans (congrArg some (by kernel_rfl))
  f169 := Tryz.func94.trans (congrArg some (by kernel_rfl))
  f240 := Tryz.func125.trans (congrArg some (by kernel_rfl))
  f241 := Tryz.func126.trans (congrArg some (by kernel_rfl))
  f276 := Tryz.func158.trans (congrArg some (by kernel_rfl))
  f277 := Tryz.func159.trans (congrArg some (by kernel_rfl))
  t0 := Tryz.underlying0
  a0 := Tryz.isAgg0
  z0 := Tryz.sizeOf0
  v0 := Tryz.zeroValue0
  t3 := Tryz.underlying3
  a3 := Tryz.isAgg3
  z3 := Tryz.sizeOf3
  v3 := Tryz.zeroValue3
  t4 := Tryz.underlying4
  a4 := Tryz.isAgg4
  z4 := Tryz.sizeOf4
  v4 := Tryz.zeroValue4
  t9 := Tryz.underlying9
  a9 := Tryz.isAgg9
  z9 := Tryz.sizeOf9
  v9 := Tryz.zeroValue9
  t20 := Tryz.underlying20
  a20 := Tryz.isAgg20
  z20 := Tryz.sizeOf20
  v20 := Tryz.zeroValue20
  t31 := Tryz.underlying91
  a31 := Tryz.isAgg91
  z31 := Tryz.sizeOf91
  v31 := Tryz.zeroValue91
  t37 := Tryz.underlying47
  a37 := Tryz.isAgg47
  z37 := Tryz.sizeOf47
  v37 := Tryz.zeroValue47
  t70 := Tryz.underlying128
  a70 := Tryz.isAgg128
  z70 := Tryz.sizeOf128
  v70 := Tryz.zeroValue128
  t72 := Tryz.underlying130
  a72 := Tryz.isAgg130
  z72 := Tryz.sizeOf130
  v72 := Tryz.zeroValue130
  t75 := Tryz.underlying116
  a75 := Tryz.isAgg116
  z75 := Tryz.sizeOf116
  v75 := Tryz.zeroValue116
  t76 := Tryz.underlying117
  a76 := Tryz.isAgg117
  z76 := Tryz.sizeOf117
  v76 := Tryz.zeroValue117
  t127 := Tryz.underlying150
  a127 := Tryz.isAgg150
  z127 := Tryz.sizeOf150
  v127 := Tryz.zeroValue150
  t164 := Tryz.underlying176
  a164 := Tryz.isAgg176
  z164 := Tryz.sizeOf176
  v164 := Tryz.zeroValue176 }
theorem Tryz.Builder_Extra_156 : Builder.Extra Tryz.prog Tryz.lays156_ren := {
  sizeBuilder := by kernel_rfl
  liesBuilder := by kernel_rfl
  t5 := Tryz.underlying5
  a5 := Tryz.isAgg5
  z5 := Tryz.sizeOf5
  v5 := Tryz.zeroValue5
  infoByte := by kernel_rfl
  cellsByte := by kernel_rfl
  sizeByte := by kernel_rfl
  neB5 := by decide }
open Go.RowKit in
theorem Tryz.strings_Join_none (a : Option Addr) (c : Nat) (sep : ByteArray) (w : World) :
    Calls Tryz.prog 65 #[.slice a 0 c, .string sep] w fun e w' => e = .returned (.string ⟨#[]⟩) ∧ w' = w := Any.strings_Join_none Tryz.lays156 Tryz.Builder_Extra_156 a c sep w
open Go.RowKit in
theorem Tryz.strings_Join (bk o c : Nat) (xs : List ByteArray) (sep : ByteArray) (w : World) (hcells : ∀ (j : Nat) x, xs[j]? = some x → w.cell? ⟨bk, o + j, none⟩ = some (.string x)) (hbk : bk < w.heap.size) (hN : xs.length ≤ 140737488355328) (hcap : xs.length ≤ c) (hlen : (Lib.join (xs.map (·.data.toList)) sep.data.toList).length ≤ 140737488355328) :
    Calls Tryz.prog 65 #[.slice (some ⟨bk, o, none⟩) xs.length c, .string sep] w fun e w' => e = .returned (.string ⟨(Lib.join (xs.map (·.data.toList)) sep.data.toList).toArray⟩) ∧ Below w.heap.size w w' := Any.strings_Join Tryz.lays156 Tryz.Builder_Extra_156 bk o c xs sep w hcells hbk hN hcap hlen
def Tryz.laysM171_ren : Go.Shelf.Ren := ⟨fun | 171 => 26 | 243 => 64 | 246 => 91 | 283 => 121 | 284 => 122 | 285 => 123 | 286 => 124 | 129 => 140 | 317 => 154 | 318 => 155 | 319 => 156 | 320 => 157 | 337 => 174 | 338 => 175 | n => n, fun | 3 => 3 | 9 => 9 | 2 => 2 | 4 => 4 | 171 => 145 | 0 => 0 | 53 => 98 | 37 => 47 | 5 => 5 | 173 => 148 | 212 => 174 | 51 => 161 | 20 => 20 | 213 => 175 | 46 => 110 | 232 => 207 | 233 => 208 | n => n, fun | 17 => 3 | 18 => 7 | 19 => 8 | n => n⟩
theorem Tryz.laysM171 : Go.Proofs.LaysM.n171 Tryz.prog Tryz.laysM171_ren := {
  mixed := by kernel_rfl
  f129 := Tryz.func140.trans (congrArg some (by kernel_rfl))
  f171 := Tryz.func26.trans (congrArg some (by kernel_rfl))
  f243 := Tryz.func64.trans (congrArg some (by kernel_rfl))
  f246 := Tryz.func91.trans (congrArg some (by kernel_rfl))
  f283 := Tryz.func121.trans (congrArg some (by kernel_rfl))
  f284 := Tryz.func122.trans (congrArg some (by kernel_rfl))
  f285 := Tryz.func123.trans (congrArg some (by kernel_rfl))
  f286 := Tryz.func124.trans (congrArg some (by kernel_rfl))
  f317 := Tryz.func154.trans (congrArg some (by kernel_rfl))
  f318 := Tryz.func155.trans (congrArg some (by kernel_rfl))
  f319 := Tryz.func156.trans (congrArg some (by kernel_rfl))
  f320 := Tryz.func157.trans (congrArg some (by kernel_rfl))
  f337 := Tryz.func174.trans (congrArg some (by kernel_rfl))
  f338 := Tryz.func175.trans (congrArg some (by kernel_rfl))
  t0 := Tryz.underlying0
  a0 := Tryz.isAgg0
  z0 := Tryz.sizeOf0
  v0 := Tryz.zeroValue0
  t2 := Tryz.underlying2
  a2 := Tryz.isAgg2
  z2 := Tryz.sizeOf2
  v2 := Tryz.zeroValue2
  t3 := Tryz.underlying3
  a3 := Tryz.isAgg3
  z3 := Tryz.sizeOf3
  v3 := Tryz.zeroValue3
  t4 := Tryz.underlying4
  a4 := Tryz.isAgg4
  z4 := Tryz.sizeOf4
  v4 := Tryz.zeroValue4
  t5 := Tryz.underlying5
  a5 := Tryz.isAgg5
  z5 := Tryz.sizeOf5
  v5 := Tryz.zeroValue5
  t9 := Tryz.underlying9
  a9 := Tryz.isAgg9
  z9 := Tryz.sizeOf9
  v9 := Tryz.zeroValue9
  t20 := Tryz.underlying20
  a20 := Tryz.isAgg20
  z20 := Tryz.sizeOf20
  v20 := Tryz.zeroValue20
  t37 := Tryz.underlying47
  a37 := Tryz.isAgg47
  z37 := Tryz.sizeOf47
  v37 := Tryz.zeroValue47
  t46 := Tryz.underlying110
  a46 := Tryz.isAgg110
  z46 := Tryz.sizeOf110
  v46 := Tryz.zeroValue110
  t51 := Tryz.underlying161
  a51 := Tryz.isAgg161
  z51 := Tryz.sizeOf161
  v51 := Tryz.zeroValue161
  t53 := Tryz.underlying98
  a53 := Tryz.isAgg98
  z53 := Tryz.sizeOf98
  v53 := Tryz.zeroValue98
  t171 := Tryz.underlying145
  a171 := Tryz.isAgg145
  z171 := Tryz.sizeOf145
  v171 := Tryz.zeroValue145
  t173 := Tryz.underlying148
  a173 := Tryz.isAgg148
  z173 := Tryz.sizeOf148
  v173 := Tryz.zeroValue148
  t212 := Tryz.underlying174
  a212 := Tryz.isAgg174
  z212 := Tryz.sizeOf174
  v212 := Tryz.zeroValue174
  t213 := Tryz.underlying175
  a213 := Tryz.isAgg175
  z213 := Tryz.sizeOf175
  t232 := Tryz.underlying207
  a232 := Tryz.isAgg207
  z232 := Tryz.sizeOf207
  v232 := Tryz.zeroValue207
  t233 := Tryz.underlying208
  a233 := Tryz.isAgg208
  z233 := Tryz.sizeOf208
  v233 := Tryz.zeroValue208
  g17 := by kernel_rfl
  g18 := by kernel_rfl
  g19 := by kernel_rfl
  i0 := by kernel_rfl
  i2 := by kernel_rfl
  i3 := by kernel_rfl
  i4 := by kernel_rfl
  i5 := by kernel_rfl
  i9 := by kernel_rfl
  i20 := by kernel_rfl
  i37 := by kernel_rfl
  i46 := by kernel_rfl
  i51 := by kernel_rfl
  i53 := by kernel_rfl
  i171 := by kernel_rfl
  i173 := by kernel_rfl
  i212 := by kernel_rfl
  i232 := by kernel_rfl
  i233 := by kernel_rfl
  m17 := by kernel_rfl
  m18 := by kernel_rfl
  m19 := by kernel_rfl }
open Go.RowKit Go.Sort Go.Lib in
theorem Tryz.strconv_Itoa (n : Int) (h0 : -9223372036854775808 ≤ n) (h1 : n ≤ 9223372036854775807) (w : World) (htab : Lib.TabIs Tryz.prog w "internal/strconv.uint64pow10" .u64 Lib.pow10Tab) :
    Calls Tryz.prog 26 #[.int .i64 n] w fun e w' => e = .returned (.string ⟨(Lib.itoa n).toArray⟩) ∧ ∃ k os, w' = grow (w.drewN k) os := Any.strconv_Itoa Tryz.laysM171 n h0 h1 w htab
def Tryz.lays105_ren : Go.Shelf.Ren := ⟨fun | 105 => 128 | 212 => 161 | 99 => 86 | 165 => 92 | 166 => 93 | 170 => 162 | 169 => 94 | 263 => 176 | 264 => 177 | 206 => 116 | 240 => 125 | 241 => 126 | 276 => 158 | 277 => 159 | n => n, fun | 9 => 9 | 3 => 3 | 4 => 4 | 20 => 20 | 0 => 0 | 46 => 110 | 109 => 180 | 5 => 5 | 72 => 130 | 76 => 117 | 51 => 161 | 146 => 189 | 53 => 98 | 148 => 199 | 70 => 128 | 37 => 47 | 75 => 116 | 127 => 150 | 164 => 176 | 80 => 79 | n => n, fun | n => n⟩
theorem Tryz.lays105 : Go.Proofs.Lays.n105 Tryz.prog Tryz.lays105_ren := {
  mixed := by kernel_rfl
  f99 := Tryz.func86.trans (congrArg some (by kernel_rfl))
  f105 := Tryz.func128.trans (congrArg some (by kernel_rfl))
  f165 := Tryz.func92.trans (congrArg some (by kernel_rfl))
  f166 := Tryz.func93.trans (congrArg some (by kernel_rfl))
  f169 := Tryz.func94.trans (congrArg some (by kernel_rfl))
  f170 := Tryz.func162.trans (congrArg some (by kernel_rfl))
  f206 := Tryz.func116.trans (congrArg some (by kernel_rfl))
  f212 := Tryz.func161.trans (congrArg some (by kernel_rfl))
  f240 := Tryz.func125.trans (congrArg some (by kernel_rfl))
  f241 := Tryz.func126.trans (congrArg some (by kernel_rfl))
  f263 := Tryz.func176.trans (congrArg some (by kernel_rfl))
  f264 := Tryz.func177.trans (congrArg some (by kernel_rfl))
  f276 := Tryz.func158.trans (congrArg some (by kernel_rfl))
  f277 := Tryz.func159.trans (congrArg some (by kernel_rfl))
  t0 := Tryz.underlying0
  a0 := Tryz.isAgg0
  z0 := Tryz.sizeOf0
  v0 := Tryz.zeroValue0
  t3 := Tryz.underlying3
  a3 := Tryz.isAgg3
  z3 := Tryz.sizeOf3
  v3 := Tryz.zeroValue3
  t4 := Tryz.underlying4
  a4 := Tryz.isAgg4
  z4 := Tryz.sizeOf4
  v4 := Tryz.zeroValue4
  t5 := Tryz.underlying5
  a5 := Tryz.isAgg5
  z5 := Tryz.sizeOf5
  v5 := Tryz.zeroValue5
  t9 := Tryz.underlying9
  a9 := Tryz.isAgg9
  z9 := Tryz.sizeOf9
  v9 := Tryz.zeroValue9
  t20 := Tryz.underlying20
  a20 := Tryz.isAgg20
  z20 := Tryz.sizeOf20
  v20 := Tryz.zeroValue20
  t37 := Tryz.underlying47
  a37 := Tryz.isAgg47
  z37 := Tryz.sizeOf47
  v37 := Tryz.zeroValue47
  t46 := Tryz.underlying110
  a46 := Tryz.isAgg110
  z46 := Tryz.sizeOf110
  v46 := Tryz.zeroValue110
  t51 := Tryz.underlying161
  a51 := Tryz.isAgg161
  z51 := Tryz.sizeOf161
  v51 := Tryz.zeroValue161
  t53 := Tryz.underlying98
  a53 := Tryz.isAgg98
  z53 := Tryz.sizeOf98
  v53 := Tryz.zeroValue98
  t70 := Tryz.underlying128
  a70 := Tryz.isAgg128
  z70 := Tryz.sizeOf128
  v70 := Tryz.zeroValue128
  t72 := Tryz.underlying130
  a72 := Tryz.isAgg130
  z72 := Tryz.sizeOf130
  v72 := Tryz.zeroValue130
  t75 := Tryz.underlying116
  a75 := Tryz.isAgg116
  z75 := Tryz.sizeOf116
  v75 := Tryz.zeroValue116
  t76 := Tryz.underlying117
  a76 := Tryz.isAgg117
  z76 := Tryz.sizeOf117
  v76 := Tryz.zeroValue117
  t109 := Tryz.underlying180
  a109 := Tryz.isAgg180
  z109 := Tryz.sizeOf180
  v109 := Tryz.zeroValue180
  t127 := Tryz.underlying150
  a127 := Tryz.isAgg150
  z127 := Tryz.sizeOf150
  v127 := Tryz.zeroValue150
  t146 := Tryz.underlying189
  a146 := Tryz.isAgg189
  z146 := Tryz.sizeOf189
  v146 := Tryz.zeroValue189
  t148 := Tryz.underlying199
  a148 := Tryz.isAgg199
  z148 := Tryz.sizeOf199
  v148 := Tryz.zeroValue199
  t164 := Tryz.underlying176
  a164 := Tryz.isAgg176
  z164 := Tryz.sizeOf176
  v164 := Tryz.zeroValue176 }
theorem Tryz.Builder_Extra_105 : Builder.Extra Tryz.prog Tryz.lays105_ren := {
  sizeBuilder := by kernel_rfl
  liesBuilder := by kernel_rfl
  t5 := Tryz.underlying5
  a5 := Tryz.isAgg5
  z5 := Tryz.sizeOf5
  v5 := Tryz.zeroValue5
  infoByte := by kernel_rfl
  cellsByte := by kernel_rfl
  sizeByte := by kernel_rfl
  neB5 := by decide }
open Go.RowKit Go.Lib in
theorem Tryz.strings_Repeat (s : ByteArray) (c : Nat) (w : World) (hc : c ≤ 9223372036854775807) (hlen : s.size * c ≤ 140737488355328) :
    Calls Tryz.prog 128 #[.string s, .int .i64 c] w fun e w' => e = .returned (.string ⟨(Lib.repeatL s.data.toList c).toArray⟩) ∧ Below w.heap.size w w' := Any.strings_Repeat Tryz.lays105 Tryz.Builder_Extra_105 s c w hc hlen
end Go.Proofs
/- What package cal's small readers answer: figuresOf, number, power, and the closure of Parse that moves on. -/
namespace Go.Proofs.YtnaijahhogndjaaGreatDoor.Cal
open Go.ChangeShapes Go.WideShapes Go.ChangeAt Go.RowKit

theorem drop_at (s : ByteArray) (k : Nat) (h : k < s.size) : s.data.toList.drop k = s[k] :: s.data.toList.drop (k + 1) := by
  rw [List.drop_eq_getElem_cons (by rw [Array.length_toList]; exact h)]
  rfl
theorem take_at (s : ByteArray) (k : Nat) (h : k < s.size) : s.data.toList.take (k + 1) = s.data.toList.take k ++ [s[k]] := by
  rw [List.take_succ_eq_append_getElem (by simpa using h)]; rfl
set_option maxHeartbeats 800000 in
theorem figuresOf_any (s : ByteArray) (n : Nat) (w : World) (hs : s.size ≤ 9223372036854775807) (hn : n ≤ 6) :
    Calls Tryz.prog 111 #[.string s, .int .i64 n] w fun e w' => e = .returned (.int .i64 (figs s.data.toList n)) ∧ w' = w := by
  go_enter Tryz.func111, Tryz.ntmps111
  go_wp2
  go_loop [5] (fun t => ∃ k : Nat, k ≤ n ∧ k ≤ s.size ∧ t = .int .i64 k ∧ figs s.data.toList n = k + figs (s.data.toList.drop k) (n - k)) (fun t => n - (intOf t).toNat)
  case atStart => exact ⟨0, by omega, by omega, rfl, by simp⟩
  case round =>
    obtain ⟨k, k1, k2, rfl, hk⟩ := hrel
    by_cases hlt : k < n ∧ k < s.size
    · obtain ⟨l1, l2⟩ := hlt
      have hd := drop_at s k l2
      obtain ⟨j, hj⟩ : ∃ j, n - k = j + 1 := ⟨n - k - 1, by omega⟩
      have hj2 : n - (k + 1) = j := by omega
      by_cases hc : 48 ≤ ((s[k]).toNat : Int) ∧ ((s[k]).toNat : Int) ≤ 57
      · obtain ⟨c1, c2⟩ := hc
        have hnext : figs s.data.toList n = (k + 1) + figs (s.data.toList.drop (k + 1)) (n - (k + 1)) := by
          rw [hk, hd, hj, hj2, figs, if_pos (show isDig s[k] = true from decide_eq_true ⟨c1, c2⟩)]; omega
        have HK := Lib.hid hnext
        have hm : (k : Int) < min (n : Int) (s.size : Int) := by omega
        clear hk hd hj hj2 hnext
        go_wp2
        go_round
        case rel => exact ⟨k + 1, by omega, by omega, by go_num, HK.out⟩
        case measure => simp [intOf]; omega
      · have hend : figs s.data.toList n = k := by
          rw [hk, hd, hj, figs, if_neg (by simpa [isDig] using hc)]; omega
        have HE := Lib.hid hend
        have hm : (k : Int) < min (n : Int) (s.size : Int) := by omega
        clear hk hd hj hj2 hend
        rcases (show ((s[k]).toNat : Int) < 48 ∨ (48 ≤ ((s[k]).toNat : Int) ∧ 57 < ((s[k]).toNat : Int)) by omega) with h | ⟨h, h'⟩
        all_goals
          clear hc
          go_wp2
          go_ret
          exact ⟨by rw [HE.out]; rfl, rfl⟩
    · have hend : figs s.data.toList n = k := by
        rw [hk]
        by_cases h : k < n
        · have : s.data.toList.drop k = [] := List.drop_of_length_le (by rw [Array.length_toList]; have : ¬ k < s.size := fun h2 => hlt ⟨h, h2⟩; change s.size ≤ k; omega)
          rw [this]
          have := (figs_le [] (n - k)).2
          simp at this ⊢; omega
        · rw [show n - k = 0 by omega]; unfold figs; omega
      have HE := Lib.hid hend
      have hm : ¬ (k : Int) < min (n : Int) (s.size : Int) := by omega
      clear hk hend hlt
      go_wp2
      go_ret
      exact ⟨by rw [HE.out]; rfl, rfl⟩

theorem ret_int {k : IntKind} {a b : Int} (h : a = b) : Ending.returned (.int k a) = .returned (.int k b) := by rw [h]
set_option maxHeartbeats 800000 in
theorem number_any (s : ByteArray) (w : World) (hs : s.size ≤ 6) (hd : ∀ c ∈ s.data.toList, isDig c = true) :
    Calls Tryz.prog 112 #[.string s] w fun e w' => e = .returned (.int .i64 (numOf s.data.toList)) ∧ w' = w := by
  have HD := Lib.hid hd
  clear hd
  go_enter Tryz.func112, Tryz.ntmps112
  go_wp2
  go_loop [3, 7] (fun v i => ∃ k : Nat, k ≤ s.size ∧ i = .int .i64 k ∧ v = .int .i64 (numOf (s.data.toList.take k))) (fun _ i => s.size - (intOf i).toNat)
  case atStart => exact ⟨0, by omega, rfl, rfl⟩
  case round =>
    obtain ⟨k, hk, rfl, rfl⟩ := hrel
    by_cases hlt : k < s.size
    · have hb := numOf_bd (s.data.toList.take k) (fun c hc => HD.out c (List.mem_of_mem_take hc))
      have hl : (s.data.toList.take k).length = k := by rw [List.length_take, Array.length_toList]; exact Nat.min_eq_left (by change k ≤ s.size; omega)
      rw [hl] at hb
      have hp : (10 : Int) ^ k ≤ 1000000 := by
        have : 10 ^ k ≤ 10 ^ 6 := Nat.pow_le_pow_right (by decide) (by omega)
        have e : (10 : Int) ^ k = ((10 ^ k : Nat) : Int) := by simp
        rw [e]
        omega
      have hc := of_decide_eq_true (HD.out s[k] (by rw [← List.take_append_drop k s.data.toList, drop_at s k hlt]; simp))
      have HS := Lib.hid (show numOf (s.data.toList.take (k + 1)) = 10 * numOf (s.data.toList.take k) + (((s[k]).toNat : Int) - 48) by rw [take_at s k hlt, numOf_snoc])
      obtain ⟨b1, b2⟩ := hb
      have b3 : numOf (s.data.toList.take k) ≤ 1000000 := by omega
      obtain ⟨c1, c2⟩ := hc
      clear b2 hp hl
      generalize numOf (s.data.toList.take k) = V at b1 b3 HS ⊢
      go_wp2
      go_round
      case rel => exact ⟨k + 1, by omega, by go_num, by rw [HS.out]⟩
      case measure => simp [intOf]; omega
    · obtain rfl : k = s.size := by omega
      have e : s.data.toList.take s.size = s.data.toList := List.take_of_length_le (by rw [Array.length_toList]; exact Nat.le_refl _)
      rw [e]
      clear e
      go_wp2
      go_ret
      exact ⟨rfl, rfl⟩
theorem power_any (n : Nat) (w : World) (hn : n ≤ 9) :
    Calls Tryz.prog 113 #[.int .i64 n] w fun e w' => e = .returned (.int .i64 ((10 ^ n : Nat) : Int)) ∧ w' = w := by
  go_enter Tryz.func113, Tryz.ntmps113
  go_wp2
  go_loop [3, 5] (fun v i => ∃ k : Nat, k ≤ n ∧ i = .int .i64 k ∧ v = .int .i64 ((10 ^ k : Nat) : Int)) (fun _ i => n - (intOf i).toNat)
  case atStart => exact ⟨0, by omega, rfl, rfl⟩
  case round =>
    obtain ⟨k, hk, rfl, rfl⟩ := hrel
    by_cases hlt : k < n
    · have hp : 10 ^ k ≤ 10 ^ 9 := Nat.pow_le_pow_right (by decide) (by omega)
      have HS := Lib.hid (Nat.pow_succ 10 k)
      generalize 10 ^ k = V at hp HS ⊢
      have hv : (V : Int) ≤ 1000000000 := by omega
      clear hp
      go_wp2
      go_round
      case rel => exact ⟨k + 1, by omega, by go_num, by rw [HS.out]; go_num⟩
      case measure => simp [intOf]; omega
    · obtain rfl : k = n := by omega
      go_wp2
      go_ret
      exact ⟨rfl, rfl⟩
end Go.Proofs.YtnaijahhogndjaaGreatDoor.Cal
/- What the closure of Parse that takes figures answers, and what it leaves of its two variables. -/
namespace Go.Proofs.YtnaijahhogndjaaGreatDoor.Cal
open Go.ChangeShapes Go.WideShapes Go.ChangeAt Go.RowKit

/-- The world in which Parse works: its answer, its date, what is left, whether all fits. -/
def PW (w : World) (o0 o1 : Obj) (r : ByteArray) (f : Bool) : World := (((w.alloc o0).alloc o1).alloc (.cells #[.string r] 9)).alloc (.cells #[.bool f] 4)
def bytes (l : List UInt8) : ByteArray := ⟨l.toArray⟩
theorem bytes_size (l : List UInt8) : (bytes l).size = l.length := by show l.toArray.size = _; simp
theorem bytes_list (l : List UInt8) : (bytes l).data.toList = l := rfl
theorem bytes_self (s : ByteArray) : bytes s.data.toList = s := Lib.mk_data s
def TakeAns (w : World) (o0 o1 : Obj) (T : Int × List UInt8 × Bool) (e : Ending) (w' : World) : Prop :=
  e = .returned (.int .i64 T.1) ∧ w' = (((w.alloc o0).alloc o1).alloc (.cells #[.string (bytes T.2.1)] 9)).alloc (.cells #[.bool T.2.2] 4)
theorem take_no (sg : ByteArray) (k : Nat) (w : World) (o0 o1 : Obj) (r : ByteArray) :
    Calls Tryz.prog 110 #[.string sg, .int .i64 k, .pointer (some ⟨w.heap.size + 2, 0, none⟩), .pointer (some ⟨w.heap.size + 3, 0, none⟩)] ((((w.alloc o0).alloc o1).alloc (.cells #[.string r] 9)).alloc (.cells #[.bool false] 4))
      fun e w' => e = .returned (.int .i64 0) ∧ w' = (((w.alloc o0).alloc o1).alloc (.cells #[.string r] 9)).alloc (.cells #[.bool false] 4) := by
  go_enter Tryz.func110, Tryz.ntmps110
  go_wp2_with (go_at_call 85; refine (Tryz.strings_CutPrefix _ _ _).mono ?_; rintro e w' ⟨rfl, rfl⟩)
  go_ret
  exact ⟨rfl, rfl⟩
theorem take_unsigned (sg : ByteArray) (k : Nat) (w : World) (o0 o1 : Obj) (r : ByteArray) (hp : Lib.hasPrefix r.data.toList sg.data.toList = false) :
    Calls Tryz.prog 110 #[.string sg, .int .i64 k, .pointer (some ⟨w.heap.size + 2, 0, none⟩), .pointer (some ⟨w.heap.size + 3, 0, none⟩)] ((((w.alloc o0).alloc o1).alloc (.cells #[.string r] 9)).alloc (.cells #[.bool true] 4))
      fun e w' => e = .returned (.int .i64 0) ∧ w' = (((w.alloc o0).alloc o1).alloc (.cells #[.string r] 9)).alloc (.cells #[.bool false] 4) := by
  go_enter Tryz.func110, Tryz.ntmps110
  go_wp2_with (go_at_call 85; refine (Tryz.strings_CutPrefix _ _ _).mono ?_; rintro e w' ⟨rfl, rfl⟩)
  go_ret
  exact ⟨rfl, rfl⟩
set_option maxHeartbeats 800000 in
theorem take_few (sg : ByteArray) (k : Nat) (w : World) (o0 o1 : Obj) (r : ByteArray) (b : List UInt8) (hb : Lib.trimPrefix r.data.toList sg.data.toList = b) (hs : b.length ≤ 9223372036854775807) (hk : k ≤ 6)
    (hp : Lib.hasPrefix r.data.toList sg.data.toList = true) (hf : ¬ figs b k = k) :
    Calls Tryz.prog 110 #[.string sg, .int .i64 k, .pointer (some ⟨w.heap.size + 2, 0, none⟩), .pointer (some ⟨w.heap.size + 3, 0, none⟩)] ((((w.alloc o0).alloc o1).alloc (.cells #[.string r] 9)).alloc (.cells #[.bool true] 4))
      fun e w' => e = .returned (.int .i64 0) ∧ w' = (((w.alloc o0).alloc o1).alloc (.cells #[.string r] 9)).alloc (.cells #[.bool false] 4) := by
  have he : (((figs b k : Nat) : Int) == (k : Int)) = false := beq_eq_false_iff_ne.2 (by omega)
  have HF := Lib.hid hf
  clear hf
  go_enter Tryz.func110, Tryz.ntmps110
  go_wp2_with fail
  refine (Tryz.strings_CutPrefix _ _ _).mono ?_
  rintro e w' ⟨rfl, rfl⟩
  rw [hb, hp]
  clear hb hp
  go_wp2_with fail
  refine (figuresOf_any (bytes b) k _ (by rw [bytes_size]; exact hs) hk).mono ?_
  rintro e w' ⟨rfl, rfl⟩
  rw [bytes_list]
  generalize figs b k = g at he ⊢
  go_wp2
  go_ret
  exact ⟨rfl, rfl⟩
set_option maxHeartbeats 800000 in
theorem take_yes (sg : ByteArray) (k : Nat) (w : World) (o0 o1 : Obj) (r : ByteArray) (b : List UInt8) (hb : Lib.trimPrefix r.data.toList sg.data.toList = b) (hs : b.length ≤ 9223372036854775807) (hk : k ≤ 6)
    (hp : Lib.hasPrefix r.data.toList sg.data.toList = true) (hf : figs b k = k) :
    Calls Tryz.prog 110 #[.string sg, .int .i64 k, .pointer (some ⟨w.heap.size + 2, 0, none⟩), .pointer (some ⟨w.heap.size + 3, 0, none⟩)] ((((w.alloc o0).alloc o1).alloc (.cells #[.string r] 9)).alloc (.cells #[.bool true] 4))
      fun e w' => e = .returned (.int .i64 (numOf (b.take k))) ∧ w' = (((w.alloc o0).alloc o1).alloc (.cells #[.string (bytes (b.drop k))] 9)).alloc (.cells #[.bool true] 4) := by
  have hl : k ≤ b.length := by have := (figs_le b k).2; omega
  have HD := Lib.hid (figs_all b k (by omega))
  have HF := Lib.hid hf
  clear hf
  go_enter Tryz.func110, Tryz.ntmps110
  go_wp2_with fail
  refine (Tryz.strings_CutPrefix _ _ _).mono ?_
  rintro e w' ⟨rfl, rfl⟩
  rw [hb, hp]
  clear hb hp
  go_wp2_with fail
  refine (figuresOf_any (bytes b) k _ (by rw [bytes_size]; exact hs) hk).mono ?_
  rintro e w' ⟨rfl, rfl⟩
  rw [bytes_list, HF.out]
  generalize hB : (⟨b.toArray⟩ : ByteArray) = B
  have hB' : bytes b = B := hB
  have hz : B.size = b.length := by rw [← hB']; exact bytes_size b
  have hkb : (k : Int) ≤ (B.size : Int) := by omega
  have hkn : k ≤ B.size := by omega
  have HX1 := Lib.hid (show B.extract 0 k = bytes (b.take k) by rw [← hB', Lib.extract_eq, bytes_list]; simp; rfl)
  have HX2 := Lib.hid (show B.extract k B.size = bytes (b.drop k) by
    rw [hz, ← hB', Lib.extract_eq, bytes_list, List.take_of_length_le (by rw [List.length_drop]; omega)]; rfl)
  have HZ := Lib.hid hz
  have hsz : B.size ≤ 9223372036854775807 := by omega
  clear hB hB' hz hs HF
  go_wp2_with fail
  rw [HX1.out]
  refine (number_any (bytes (b.take k)) _ (by rw [bytes_size, List.length_take]; omega) HD.out).mono ?_
  rintro e w' ⟨rfl, rfl⟩
  rw [bytes_list, HX2.out]
  go_wp2
  go_ret
  exact ⟨rfl, rfl⟩
theorem take_any (sg : ByteArray) (k : Nat) (w : World) (o0 o1 : Obj) (r : List UInt8) (f : Bool) (hs : r.length ≤ 9223372036854775807) (hk : k ≤ 6) :
    Calls Tryz.prog 110 #[.string sg, .int .i64 k, .pointer (some ⟨w.heap.size + 2, 0, none⟩), .pointer (some ⟨w.heap.size + 3, 0, none⟩)] ((((w.alloc o0).alloc o1).alloc (.cells #[.string (bytes r)] 9)).alloc (.cells #[.bool f] 4))
      (TakeAns w o0 o1 (tk sg.data.toList k r f)) := by
  cases f with
  | false => rw [tk_false]; exact take_no sg k w o0 o1 (bytes r)
  | true =>
    by_cases hp : Lib.hasPrefix r sg.data.toList = true
    · obtain ⟨p, hpp⟩ := trim_suffix r sg.data.toList
      have hbl : (Lib.trimPrefix r sg.data.toList).length ≤ 9223372036854775807 := by
        have : r.length = p.length + (Lib.trimPrefix r sg.data.toList).length := by conv => lhs; rw [hpp, List.length_append]
        omega
      by_cases hf : figs (Lib.trimPrefix r sg.data.toList) k = k
      · have e : tk sg.data.toList k r true = (numOf ((Lib.trimPrefix r sg.data.toList).take k), (Lib.trimPrefix r sg.data.toList).drop k, true) := by unfold tk; rw [hp, hf]; simp
        rw [e]
        exact take_yes sg k w o0 o1 (bytes r) _ rfl hbl hk hp hf
      · have e : tk sg.data.toList k r true = (0, r, false) := by unfold tk; rw [hp]; simp [hf]
        rw [e]
        exact take_few sg k w o0 o1 (bytes r) _ rfl hbl hk hp hf
    · have hp' : Lib.hasPrefix r sg.data.toList = false := by simpa using hp
      have e : tk sg.data.toList k r true = (0, r, false) := by unfold tk; rw [hp']; simp
      rw [e]
      exact take_unsigned sg k w o0 o1 (bytes r) hp'
end Go.Proofs.YtnaijahhogndjaaGreatDoor.Cal
/- What Parse reads of a text, as lists of bytes. No program is spoken of. -/
namespace Go.Proofs.YtnaijahhogndjaaGreatDoor.Cal
open Go

abbrev T3 := Int × List UInt8 × Bool
/-- The figures behind a point, if there is one. -/
def nanoL (r : List UInt8) : T3 :=
  if Lib.hasPrefix r [46] = true then
    let k := max 1 (figs (Lib.trimPrefix r [46]) 6)
    let t := tk [46] k r true
    (t.1 * ((10 ^ (9 - k) : Nat) : Int), t.2.1, t.2.2)
  else (0, r, true)
/-- The zone's hours and minutes. -/
def zoneL (r : List UInt8) (f : Bool) : Int × Int × List UInt8 × Bool :=
  if Lib.hasPrefix r [90] = true then (0, 0, (tk [90] 0 r f).2.1, (tk [90] 0 r f).2.2)
  else if Lib.hasPrefix r [45] = true then
    let t := tk [45] 2 r f
    let u := tk [58] 2 t.2.1 t.2.2
    (-t.1, -u.1, u.2.1, u.2.2)
  else
    let t := tk [43] 2 r f
    let u := tk [58] 2 t.2.1 t.2.2
    (t.1, u.1, u.2.1, u.2.2)
/-- What Parse tells of a text: the date's numbers and what is left, or nothing. -/
def ParsedAs (l : List UInt8) (y m d h i s n z : Int) (t : List UInt8) (err : Int) : Prop :=
  ∃ t1 t2 t3 t4 t5 t6 : T3, tk [] 4 l true = t1 ∧ tk [45] 2 t1.2.1 t1.2.2 = t2 ∧ tk [45] 2 t2.2.1 t2.2.2 = t3 ∧ tk [84] 2 t3.2.1 t3.2.2 = t4 ∧ tk [58] 2 t4.2.1 t4.2.2 = t5 ∧ tk [58] 2 t5.2.1 t5.2.2 = t6 ∧
    ((t6.2.2 = false ∧ y = 0 ∧ m = 0 ∧ d = 0 ∧ h = 0 ∧ i = 0 ∧ s = 0 ∧ n = 0 ∧ z = 0 ∧ t = [] ∧ err = 3) ∨
     (t6.2.2 = true ∧ ∃ (N : T3) (Z : Int × Int × List UInt8 × Bool), nanoL t6.2.1 = N ∧ zoneL N.2.1 N.2.2 = Z ∧
        (((Z.2.2.2 = true ∧ (-59 ≤ Z.2.1 ∧ Z.2.1 ≤ 59) ∧ rightB t1.1 t2.1 t3.1 t4.1 t5.1 t6.1 N.1 (Z.1 * 60 + Z.2.1) = true) ∧
            y = t1.1 ∧ m = t2.1 ∧ d = t3.1 ∧ h = t4.1 ∧ i = t5.1 ∧ s = t6.1 ∧ n = N.1 ∧ z = Z.1 * 60 + Z.2.1 ∧ t = Z.2.2.1 ∧ err = 0) ∨
         (¬ (Z.2.2.2 = true ∧ (-59 ≤ Z.2.1 ∧ Z.2.1 ≤ 59) ∧ rightB t1.1 t2.1 t3.1 t4.1 t5.1 t6.1 N.1 (Z.1 * 60 + Z.2.1) = true) ∧
            y = 0 ∧ m = 0 ∧ d = 0 ∧ h = 0 ∧ i = 0 ∧ s = 0 ∧ n = 0 ∧ z = 0 ∧ t = [] ∧ err = 3))))

theorem nanoL_suffix (r : List UInt8) : ∃ p, r = p ++ (nanoL r).2.1 := by
  unfold nanoL
  split
  · exact tk_suffix _ _ _ _
  · exact ⟨[], rfl⟩
theorem suffix_trans {a b c : List UInt8} (h1 : ∃ p, a = p ++ b) (h2 : ∃ p, b = p ++ c) : ∃ p, a = p ++ c := by
  obtain ⟨p, rfl⟩ := h1
  obtain ⟨q, rfl⟩ := h2
  exact ⟨p ++ q, by rw [List.append_assoc]⟩
theorem zoneL_suffix (r : List UInt8) (f : Bool) : ∃ p, r = p ++ (zoneL r f).2.2.1 := by
  unfold zoneL
  split
  · exact tk_suffix _ _ _ _
  · split
    · exact suffix_trans (tk_suffix _ _ _ _) (tk_suffix _ _ _ _)
    · exact suffix_trans (tk_suffix _ _ _ _) (tk_suffix _ _ _ _)
theorem tk_kept {sg : List UInt8} {k : Nat} {r : List UInt8} {f : Bool} (h : (tk sg k r f).2.2 = true) : f = true := by
  cases f with
  | true => rfl
  | false => rw [tk_false] at h; cases h
/-- What is told is right, and what is left is the text's end, and shorter than it. -/
theorem parsed_right {l t : List UInt8} {y m d h i s n z err : Int} (hp : ParsedAs l y m d h i s n z t err) (h0 : err = 0) : rightB y m d h i s n z = true ∧ t.length < l.length ∧ ∃ p, l = p ++ t := by
  obtain ⟨t1, t2, t3, t4, t5, t6, e1, e2, e3, e4, e5, e6, hc⟩ := hp
  rcases hc with ⟨_, _, _, _, _, _, _, _, _, _, he⟩ | ⟨hf6, N, Z, eN, eZ, hc⟩
  · rw [h0] at he; cases he
  · rcases hc with ⟨⟨_, _, hr⟩, rfl, rfl, rfl, rfl, rfl, rfl, rfl, rfl, rfl, _⟩ | ⟨_, _, _, _, _, _, _, _, _, _, he⟩
    · have f5 : t5.2.2 = true := by rw [← e6] at hf6; exact tk_kept hf6
      have f4 : t4.2.2 = true := by rw [← e5] at f5; exact tk_kept f5
      have f3 : t3.2.2 = true := by rw [← e4] at f4; exact tk_kept f4
      have f2 : t2.2.2 = true := by rw [← e3] at f3; exact tk_kept f3
      have f1 : t1.2.2 = true := by rw [← e2] at f2; exact tk_kept f2
      have hlen : t1.2.1.length < l.length := by rw [← e1]; exact tk_shorter _ _ _ _ (by omega) (by rw [e1]; exact f1)
      have s1 : ∃ p, l = p ++ t1.2.1 := by rw [← e1]; exact tk_suffix _ _ _ _
      have s2 : ∃ p, t1.2.1 = p ++ t2.2.1 := by rw [← e2]; exact tk_suffix _ _ _ _
      have s3 : ∃ p, t2.2.1 = p ++ t3.2.1 := by rw [← e3]; exact tk_suffix _ _ _ _
      have s4 : ∃ p, t3.2.1 = p ++ t4.2.1 := by rw [← e4]; exact tk_suffix _ _ _ _
      have s5 : ∃ p, t4.2.1 = p ++ t5.2.1 := by rw [← e5]; exact tk_suffix _ _ _ _
      have s6 : ∃ p, t5.2.1 = p ++ t6.2.1 := by rw [← e6]; exact tk_suffix _ _ _ _
      have s7 : ∃ p, t6.2.1 = p ++ N.2.1 := by rw [← eN]; exact nanoL_suffix _
      have s8 : ∃ p, N.2.1 = p ++ Z.2.2.1 := by rw [← eZ]; exact zoneL_suffix _ _
      have sr := suffix_trans s2 (suffix_trans s3 (suffix_trans s4 (suffix_trans s5 (suffix_trans s6 (suffix_trans s7 s8)))))
      refine ⟨hr, ?_, suffix_trans s1 sr⟩
      obtain ⟨p, hp⟩ := sr
      have := congrArg List.length hp
      rw [List.length_append] at this
      omega
    · rw [h0] at he; cases he

/-! ### a date's text -/
def zoneText (z : Int) : List UInt8 :=
  if z = 0 then [90] else (if z < 0 then [45] else [43]) ++ (pad 2 (z.natAbs / 60) ++ ([58] ++ pad 2 (z.natAbs % 60)))
def nanoText (n : Int) : List UInt8 := if n = 0 then [] else [46] ++ pad 6 (n.toNat / 1000)
def dateText (y m d h i s n z : Int) : List UInt8 :=
  pad 4 y.toNat ++ ([45] ++ (pad 2 m.toNat ++ ([45] ++ (pad 2 d.toNat ++ ([84] ++ (pad 2 h.toNat ++ ([58] ++ (pad 2 i.toNat ++ ([58] ++ (pad 2 s.toNat ++ (nanoText n ++ zoneText z)))))))))))
theorem zoneText_head (z : Int) (l : List UInt8) : Lib.hasPrefix (zoneText z ++ l) [46] = false := by
  unfold zoneText
  split
  · rfl
  · split <;> rfl
theorem zone_back (z : Int) (l : List UInt8) (h1 : -1439 ≤ z) (h2 : z ≤ 1439) :
    ∃ hh mm : Int, zoneL (zoneText z ++ l) true = (hh, mm, l, true) ∧ (-59 ≤ mm ∧ mm ≤ 59) ∧ hh * 60 + mm = z := by
  have p1 : z.natAbs / 60 < 10 ^ 2 := by omega
  have p2 : z.natAbs % 60 < 10 ^ 2 := by omega
  unfold zoneText zoneL
  by_cases h0 : z = 0
  · rw [if_pos h0, if_pos (hasPrefix_front [90] l)]
    have e := tk_pad [90] 0 0 l (by decide)
    simp only [pad, List.nil_append] at e
    rw [e]
    exact ⟨0, 0, rfl, by omega, by omega⟩
  · rw [if_neg h0]
    by_cases hn : z < 0
    · rw [if_pos hn, List.append_assoc, List.append_assoc, List.append_assoc]
      rw [if_neg (by simp [Lib.hasPrefix]), if_pos (hasPrefix_front [45] _)]
      have e1 := tk_pad [45] 2 (z.natAbs / 60) ([58] ++ (pad 2 (z.natAbs % 60) ++ l)) p1
      have e2 := tk_pad [58] 2 (z.natAbs % 60) l p2
      simp only [e1, e2]
      exact ⟨_, _, rfl, by omega, by omega⟩
    · rw [if_neg hn, List.append_assoc, List.append_assoc, List.append_assoc]
      rw [if_neg (by simp [Lib.hasPrefix]), if_neg (by simp [Lib.hasPrefix])]
      have e1 := tk_pad [43] 2 (z.natAbs / 60) ([58] ++ (pad 2 (z.natAbs % 60) ++ l)) p1
      have e2 := tk_pad [58] 2 (z.natAbs % 60) l p2
      simp only [e1, e2]
      exact ⟨_, _, rfl, by omega, by omega⟩
theorem nano_back (n z : Int) (l : List UInt8) (h1 : 0 ≤ n) (h2 : n ≤ 999999999) (h3 : n % 1000 = 0) : nanoL (nanoText n ++ (zoneText z ++ l)) = (n, zoneText z ++ l, true) := by
  unfold nanoText nanoL
  by_cases h0 : n = 0
  · rw [if_pos h0, List.nil_append, zoneText_head, h0]; rfl
  · rw [if_neg h0, List.append_assoc, if_pos (hasPrefix_front [46] _), trimPrefix_front]
    have hk : figs (pad 6 (n.toNat / 1000) ++ (zoneText z ++ l)) 6 = 6 := by have := figs_front (pad 6 (n.toNat / 1000)) (zoneText z ++ l) (pad_digs _ _); rwa [pad_length] at this
    have e := tk_pad [46] 6 (n.toNat / 1000) (zoneText z ++ l) (by omega)
    simp only [hk, show max 1 6 = 6 from rfl, e]
    have : ((10 ^ (9 - 6) : Nat) : Int) = 1000 := rfl
    rw [this, show ((n.toNat / 1000 : Nat) : Int) * 1000 = n by omega]
/-- What is printed of a right date is read as it. -/
theorem text_back {y m d h i s n z : Int} (hr : rightB y m d h i s n z = true) (l : List UInt8) {y' m' d' h' i' s' n' z' err : Int} {t : List UInt8}
    (hp : ParsedAs (dateText y m d h i s n z ++ l) y' m' d' h' i' s' n' z' t err) : err = 0 ∧ y' = y ∧ m' = m ∧ d' = d ∧ h' = h ∧ i' = i ∧ s' = s ∧ n' = n ∧ z' = z ∧ t = l := by
  obtain ⟨⟨y1, y2⟩, ⟨d1, d2⟩, ⟨h1, h2⟩, ⟨i1, i2⟩, ⟨s1, s2⟩, ⟨n1, n2⟩, n3, ⟨z1, z2⟩⟩ := (right_iff ..).1 hr
  obtain ⟨m1, m2⟩ := month_of_day d1 d2
  have ld := lenI_bd y m
  obtain ⟨t1, t2, t3, t4, t5, t6, e1, e2, e3, e4, e5, e6, hc⟩ := hp
  unfold dateText at e1
  simp only [List.append_assoc] at e1
  have q1 := tk_pad [] 4 y.toNat ([45] ++ (pad 2 m.toNat ++ ([45] ++ (pad 2 d.toNat ++ ([84] ++ (pad 2 h.toNat ++ ([58] ++ (pad 2 i.toNat ++ ([58] ++ (pad 2 s.toNat ++ (nanoText n ++ (zoneText z ++ l))))))))))))  (by omega)
  rw [List.nil_append] at q1
  rw [q1] at e1
  subst e1
  rw [tk_pad [45] 2 m.toNat _ (by omega)] at e2
  subst e2
  rw [tk_pad [45] 2 d.toNat _ (by omega)] at e3
  subst e3
  rw [tk_pad [84] 2 h.toNat _ (by omega)] at e4
  subst e4
  rw [tk_pad [58] 2 i.toNat _ (by omega)] at e5
  subst e5
  rw [tk_pad [58] 2 s.toNat _ (by omega)] at e6
  subst e6
  rcases hc with ⟨hf, _⟩ | ⟨_, N, Z, eN, eZ, hc⟩
  · cases hf
  · simp only at eN
    rw [nano_back n z l n1 n2 n3] at eN
    subst eN
    obtain ⟨hh, mm, ez, hmm, hz⟩ := zone_back z l z1 z2
    rw [ez] at eZ
    subst eZ
    have c1 : ((y.toNat : Nat) : Int) = y := by omega
    have c2 : ((m.toNat : Nat) : Int) = m := by omega
    have c3 : ((d.toNat : Nat) : Int) = d := by omega
    have c4 : ((h.toNat : Nat) : Int) = h := by omega
    have c5 : ((i.toNat : Nat) : Int) = i := by omega
    have c6 : ((s.toNat : Nat) : Int) = s := by omega
    simp only [c1, c2, c3, c4, c5, c6, hz] at hc
    rcases hc with ⟨_, rfl, rfl, rfl, rfl, rfl, rfl, rfl, rfl, rfl, he⟩ | ⟨hno, _⟩
    · exact ⟨he, rfl, rfl, rfl, rfl, rfl, rfl, rfl, rfl, rfl⟩
    · exact absurd ⟨trivial, hmm, hr⟩ hno
end Go.Proofs.YtnaijahhogndjaaGreatDoor.Cal
