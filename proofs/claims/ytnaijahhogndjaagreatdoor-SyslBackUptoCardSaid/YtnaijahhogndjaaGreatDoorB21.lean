/- The texts Moment, MomentAny, Shelf3, Origin, OriginAny, ParseAny, one behind the other. -/
import Derived.Test.YtnaijahhogndjaaGreatDoorB20
import Derived.Test.YtnaijahhogndjaaGreatDoorB7
import Derived.Test.YtnaijahhogndjaaGreatDoorB15
import Derived.Shelf.LaysC
import Derived.Shelf.Strconv.AtoiAll
import Derived.Test.YtnaijahhogndjaaGreatDoorProg
import Derived.Test.YtnaijahhogndjaaGreatDoorB6
import Derived.Test.YtnaijahhogndjaaGreatDoorB8
import Derived.Test.YtnaijahhogndjaaGreatDoorB19
/- What sysl.moment answers of every text. Condition: the table of months' lengths stands; the size. -/
namespace Go.Proofs.YtnaijahhogndjaaGreatDoor
open Go.ChangeShapes Go.WideShapes Go.ChangeAt Go.RowKit

theorem parsed_err {l t : List UInt8} {y m d h i s n z err : Int} (hp : Cal.ParsedAs l y m d h i s n z t err) : err = 0 ∨ err = 3 := by
  obtain ⟨t1, t2, t3, t4, t5, t6, e1, e2, e3, e4, e5, e6, hc⟩ := hp
  rcases hc with ⟨_, _, _, _, _, _, _, _, _, _, he⟩ | ⟨hf6, N, Z, eN, eZ, hc⟩
  · exact .inr he
  · rcases hc with ⟨_, _, _, _, _, _, _, _, _, _, he⟩ | ⟨_, _, _, _, _, _, _, _, _, _, he⟩
    · exact .inl he
    · exact .inr he
/-- What moment answers. -/
def MomentAns (l : List UInt8) (w : World) (e : Ending) (w' : World) : Prop :=
  ((l = [] ∧ e = .returned (.tuple #[.bool false, .int .i64 0, .bool true])) ∨
    (l ≠ [] ∧ ∃ (y m d h i s n z : Int) (t : List UInt8) (err : Int), Cal.ParsedAs l y m d h i s n z t err ∧
      ((err = 0 ∧ t = [] ∧ e = .returned (.tuple #[.bool true, .int .i64 (Cal.nanosI y m d h i s n z), .bool true])) ∨ (¬ (err = 0 ∧ t = []) ∧ e = .returned (.tuple #[.bool false, .int .i64 0, .bool false]))))) ∧ Below w.heap.size w w'
set_option maxHeartbeats 1000000 in
set_option maxRecDepth 100000 in
theorem moment_any (l : List UInt8) (w : World) (ht : Cal.Tab w) (hl : l.length ≤ 9223372036854775807) : Calls Tryz.prog 57 #[.string (bytes l)] w (MomentAns l w) := by
  have hq := bytes_empty l
  by_cases h0 : l = []
  · rw [decide_eq_true h0] at hq
    have HL := Lib.hid h0
    clear h0
    go_enter Tryz.func57, Tryz.ntmps57
    go_wp2
    refine bodyPost_ret (v := .tuple #[.bool false, .int .i64 0, .bool true]) (by simp [results, Tryz.results57, go_sem]) rfl ⟨.inl ⟨HL.out, rfl⟩, Below.refl _ _⟩
  · rw [decide_eq_false h0] at hq
    have HL := Lib.hid h0
    clear h0
    go_enter Tryz.func57, Tryz.ntmps57
    go_wp2_with fail
    refine (Cal.parse_any l _ ht hl).mono ?_
    rintro e w2 ⟨y, m, d, h, i, s, n, z, t, err, rfl, hp, hb2⟩
    have HP := Lib.hid hp
    have hq2 : (Cal.bytes t).toList.isEmpty = decide (t = []) := bytes_empty t
    have T2 := ht.below hb2
    rcases parsed_err hp with rfl | rfl
    · by_cases h1 : t = []
      · rw [decide_eq_true h1] at hq2
        have HR := Lib.hid (Cal.parsed_right hp rfl).1
        have HT := Lib.hid h1
        have HB := Lib.hid (fun o => hb2.alloc hb2.size o)
        clear hp h1 hb2
        go_wp2_with fail
        refine (Cal.nanos_yes y m d h i s n z _ (T2.below ((Below.refl _ _).alloc (Nat.le_refl _) _)) HR.out).mono ?_
        rintro e w3 ⟨rfl, hb3⟩
        have B3 := (HB.out _).trans (hb3.mono (HB.out _).size)
        clear hb3
        go_wp2
        refine bodyPost_ret (v := .tuple #[.bool true, .int .i64 (Cal.nanosI y m d h i s n z), .bool true]) (by simp [results, Tryz.results57, go_sem]) rfl ⟨.inr ⟨HL.out, y, m, d, h, i, s, n, z, t, 0, HP.out, .inl ⟨rfl, HT.out, rfl⟩⟩, B3⟩
      · rw [decide_eq_false h1] at hq2
        have HT := Lib.hid h1
        have HB := Lib.hid (fun o => hb2.alloc hb2.size o)
        clear hp h1 hb2
        go_wp2
        refine bodyPost_ret (v := .tuple #[.bool false, .int .i64 0, .bool false]) (by simp [results, Tryz.results57, go_sem]) rfl ⟨.inr ⟨HL.out, y, m, d, h, i, s, n, z, t, 0, HP.out, .inr ⟨fun hh => HT.out hh.2, rfl⟩⟩, HB.out _⟩
    · have HB := Lib.hid (fun o => hb2.alloc hb2.size o)
      clear hp hb2
      go_wp2
      refine bodyPost_ret (v := .tuple #[.bool false, .int .i64 0, .bool false]) (by simp [results, Tryz.results57, go_sem]) rfl ⟨.inr ⟨HL.out, y, m, d, h, i, s, n, z, t, 3, HP.out, .inr ⟨fun hh => absurd hh.1 (by decide), rfl⟩⟩, HB.out _⟩
end Go.Proofs.YtnaijahhogndjaaGreatDoor
/- What sysl.moment answers of a text, whatever the world: the one or the other; and of a right time's text: its moment. -/
namespace Go.Proofs.YtnaijahhogndjaaGreatDoor
open Go.ChangeShapes Go.WideShapes Go.ChangeAt Go.RowKit
open Cal (clamp DateIs dateText nanosI rightB)

theorem parsed_one {l t t' : List UInt8} {y m d h i s n z err y' m' d' h' i' s' n' z' err' : Int} (hp : Cal.ParsedAs l y m d h i s n z t err) (hq : Cal.ParsedAs l y' m' d' h' i' s' n' z' t' err') :
    y = y' ∧ m = m' ∧ d = d' ∧ h = h' ∧ i = i' ∧ s = s' ∧ n = n' ∧ z = z' ∧ t = t' ∧ err = err' := by
  obtain ⟨t1, t2, t3, t4, t5, t6, e1, e2, e3, e4, e5, e6, hc⟩ := hp
  obtain ⟨u1, u2, u3, u4, u5, u6, g1, g2, g3, g4, g5, g6, hd⟩ := hq
  obtain rfl : t1 = u1 := e1.symm.trans g1
  obtain rfl : t2 = u2 := e2.symm.trans g2
  obtain rfl : t3 = u3 := e3.symm.trans g3
  obtain rfl : t4 = u4 := e4.symm.trans g4
  obtain rfl : t5 = u5 := e5.symm.trans g5
  obtain rfl : t6 = u6 := e6.symm.trans g6
  rcases hc with ⟨a0, a1, a2, a3, a4, a5, a6, a7, a8, a9, aa⟩ | ⟨a0, N, Z, eN, eZ, hc⟩
  · rcases hd with ⟨b0, b1, b2, b3, b4, b5, b6, b7, b8, b9, bb⟩ | ⟨b0, _⟩
    · exact ⟨a1.trans b1.symm, a2.trans b2.symm, a3.trans b3.symm, a4.trans b4.symm, a5.trans b5.symm, a6.trans b6.symm, a7.trans b7.symm, a8.trans b8.symm, a9.trans b9.symm, aa.trans bb.symm⟩
    · rw [a0] at b0; cases b0
  · rcases hd with ⟨b0, _⟩ | ⟨b0, N', Z', gN, gZ, hd⟩
    · rw [a0] at b0; cases b0
    · obtain rfl : N = N' := eN.symm.trans gN
      obtain rfl : Z = Z' := eZ.symm.trans gZ
      rcases hc with ⟨k, a1, a2, a3, a4, a5, a6, a7, a8, a9, aa⟩ | ⟨k, a1, a2, a3, a4, a5, a6, a7, a8, a9, aa⟩
      · rcases hd with ⟨k', b1, b2, b3, b4, b5, b6, b7, b8, b9, bb⟩ | ⟨k', _⟩
        · exact ⟨a1.trans b1.symm, a2.trans b2.symm, a3.trans b3.symm, a4.trans b4.symm, a5.trans b5.symm, a6.trans b6.symm, a7.trans b7.symm, a8.trans b8.symm, a9.trans b9.symm, aa.trans bb.symm⟩
        · exact absurd k k'
      · rcases hd with ⟨k', _⟩ | ⟨k', b1, b2, b3, b4, b5, b6, b7, b8, b9, bb⟩
        · exact absurd k' k
        · exact ⟨a1.trans b1.symm, a2.trans b2.symm, a3.trans b3.symm, a4.trans b4.symm, a5.trans b5.symm, a6.trans b6.symm, a7.trans b7.symm, a8.trans b8.symm, a9.trans b9.symm, aa.trans bb.symm⟩
/-- What moment's answer is, whatever the world. -/
theorem moment_cases (l : List UInt8) (hl : l.length ≤ 16777216) :
    (∃ (td : Bool) (at' : Int), ∀ W, Cal.Tab W → Calls Tryz.prog 57 #[.string (bytes l)] W fun e w' => e = .returned (.tuple #[.bool td, .int .i64 at', .bool true]) ∧ Below W.heap.size W w') ∨
    (∀ W, Cal.Tab W → Calls Tryz.prog 57 #[.string (bytes l)] W fun e w' => e = .returned (.tuple #[.bool false, .int .i64 0, .bool false]) ∧ Below W.heap.size W w') := by
  by_cases h0 : l = []
  · refine .inl ⟨false, 0, fun W hW => (moment_any l W hW (by omega)).mono ?_⟩
    rintro e w' ⟨⟨_, he⟩ | ⟨h1, _⟩, hb⟩
    · exact ⟨he, hb⟩
    · exact absurd h0 h1
  · by_cases hx : ∃ y m d h i s n z : Int, Cal.ParsedAs l y m d h i s n z [] 0
    · obtain ⟨y, m, d, h, i, s, n, z, hp⟩ := hx
      refine .inl ⟨true, nanosI y m d h i s n z, fun W hW => (moment_any l W hW (by omega)).mono ?_⟩
      rintro e w' ⟨⟨h1, _⟩ | ⟨_, y', m', d', h', i', s', n', z', t', err', hq, hc⟩, hb⟩
      · exact absurd h1 h0
      · obtain ⟨rfl, rfl, rfl, rfl, rfl, rfl, rfl, rfl, rfl, rfl⟩ := parsed_one hp hq
        rcases hc with ⟨_, _, he⟩ | ⟨hn, _⟩
        · exact ⟨he, hb⟩
        · exact absurd ⟨rfl, rfl⟩ hn
    · refine .inr fun W hW => (moment_any l W hW (by omega)).mono ?_
      rintro e w' ⟨⟨h1, _⟩ | ⟨_, y', m', d', h', i', s', n', z', t', err', hq, hc⟩, hb⟩
      · exact absurd h1 h0
      · rcases hc with ⟨rfl, rfl, _⟩ | ⟨_, he⟩
        · exact absurd ⟨_, _, _, _, _, _, _, _, hq⟩ hx
        · exact ⟨he, hb⟩
/-- What moment answers of a right time's text. -/
theorem moment_time {td : Bool} {a : Int} {T : List UInt8} (h : TimeIs td a T) (hr : timeB td a = true) (W : World) (hW : Cal.Tab W) :
    Calls Tryz.prog 57 #[.string (bytes (if T = [45] then [] else T))] W fun e w' => e = .returned (.tuple #[.bool td, .int .i64 a, .bool true]) ∧ Below W.heap.size W w' := by
  have hl := time_len h
  rcases h with ⟨rfl, rfl⟩ | ⟨rfl, y, m, d, hh, i, s, k, hD, rfl⟩
  · have ha : a = 0 := of_decide_eq_true hr
    subst ha
    rw [if_pos rfl]
    refine (moment_any [] W hW (by decide)).mono ?_
    rintro e w' ⟨⟨_, he⟩ | ⟨h1, _⟩, hb⟩
    · exact ⟨he, hb⟩
    · exact absurd rfl h1
  · have ha : clamp a - clamp a % 1000 = a := of_decide_eq_true hr
    obtain ⟨hr2, hn⟩ := hD
    have hne : dateText y m d hh i s k 0 ≠ [45] := fun h => by
      have e := congrArg List.length h
      unfold dateText at e
      simp only [List.length_append, Cal.pad_length, List.length_cons, List.length_nil] at e
      omega
    have hne0 : dateText y m d hh i s k 0 ≠ [] := fun h => by
      have e := congrArg List.length h
      unfold dateText at e
      simp only [List.length_append, Cal.pad_length, List.length_cons, List.length_nil] at e
      omega
    rw [if_neg hne]
    refine (moment_any _ W hW (by omega)).mono ?_
    rintro e w' ⟨⟨h1, _⟩ | ⟨_, y', m', d', h', i', s', n', z', t', err', hq, hc⟩, hb⟩
    · exact absurd h1 hne0
    · obtain ⟨rfl, rfl, rfl, rfl, rfl, rfl, rfl, rfl, rfl, rfl⟩ := Cal.text_back hr2 [] (by rw [List.append_nil]; exact hq)
      rcases hc with ⟨_, _, he⟩ | ⟨hn2, _⟩
      · exact ⟨by rw [he, hn, ha], hb⟩
      · exact absurd ⟨rfl, rfl⟩ hn2
end Go.Proofs.YtnaijahhogndjaaGreatDoor
/- Three contracts of the library's Atoi, laid at this program. -/
namespace Go.Proofs
open Go.Shelf
def Tryz.laysC172_ren : Go.Shelf.Ren := ⟨fun | 172 => 83 | 244 => 108 | 245 => 109 | 247 => 145 | 279 => 146 | 280 => 147 | 281 => 148 | 282 => 149 | 287 => 170 | 316 => 171 | 171 => 26 | 205 => 172 | 321 => 179 | 322 => 180 | 243 => 64 | 246 => 91 | 283 => 121 | 284 => 122 | 285 => 123 | 286 => 124 | 129 => 140 | 317 => 154 | 318 => 155 | 319 => 156 | 320 => 157 | 337 => 174 | 338 => 175 | n => n, fun | 9 => 9 | 3 => 3 | 75 => 116 | 76 => 117 | 4 => 4 | 5 => 5 | 167 => 162 | 37 => 47 | 0 => 0 | 85 => 163 | 2 => 2 | 168 => 165 | 53 => 98 | 175 => 191 | 46 => 110 | 210 => 194 | 127 => 150 | 145 => 206 | 143 => 204 | 21 => 21 | 171 => 145 | 173 => 148 | 212 => 174 | 51 => 161 | 20 => 20 | 213 => 175 | 232 => 207 | 233 => 208 | 80 => 79 | n => n, fun | 15 => 5 | 16 => 6 | 17 => 3 | 18 => 7 | 19 => 8 | n => n⟩
theorem Tryz.laysC172 : Go.Proofs.LaysC.n172 Tryz.prog Tryz.laysC172_ren := {
  mixed := by kernel_rfl
  f129 := Tryz.func140.trans (congrArg some (by kernel_rfl))
  f171 := Tryz.func26.trans (congrArg some (by kernel_rfl))
  f172 := Tryz.func83.trans (congrArg some (by kernel_rfl))
  f205 := Tryz.func172.trans (congrArg some (by kernel_rfl))
  f243 := Tryz.func64.trans (congrArg some (by kernel_rfl))
  f244 := Tryz.func108.trans (congrArg some (by kernel_rfl))
  f245 := Tryz.func109.trans (congrArg some (by kernel_rfl))
  f246 := Tryz.func91.trans (congrArg some (by kernel_rfl))
  f247 := Tryz.func145.trans (congrArg some (by kernel_rfl))
  f279 := Tryz.func146.trans (congrArg some (by kernel_rfl))
  f280 := Tryz.func147.trans (congrArg some (by kernel_rfl))
  f281 := Tryz.func148.trans (congrArg some (by kernel_rfl))
  f282 := Tryz.func149.trans (congrArg some (by kernel_rfl))
  f283 := Tryz.func121.trans (congrArg some (by kernel_rfl))
  f284 := Tryz.func122.trans (congrArg some (by kernel_rfl))
  f285 := Tryz.func123.trans (congrArg some (by kernel_rfl))
  f286 := Tryz.func124.trans (congrArg some (by kernel_rfl))
  f287 := Tryz.func170.trans (congrArg some (by kernel_rfl))
  f316 := Tryz.func171.trans (congrArg some (by kernel_rfl))
  f317 := Tryz.func154.trans (congrArg some (by kernel_rfl))
  f318 := Tryz.func155.trans (congrArg some (by kernel_rfl))
  f319 := Tryz.func156.trans (congrArg some (by kernel_rfl))
  f320 := Tryz.func157.trans (congrArg some (by kernel_rfl))
  f321 := Tryz.func179.trans (congrArg some (by kernel_rfl))
  f322 := Tryz.func180.trans (congrArg some (by kernel_rfl))
  f337 := Tryz.func174.trans (congrArg some (by kernel_rfl))
  f338 := Tryz.func175.trans (congrArg some (by kernel_rfl))
  t0 := Tryz.underlying0
  a0 := Tryz.isAgg0
  z0 := Tryz.sizeOf0
  v0 := Tryz.zeroValue0
  t2 := Tryz.underlying2
  a2 := Tryz.isAgg2
  z2 := Tryz.sizeOf2
  v2 := Tryz.zeroValue2
  t3 := Tryz.underlying3
  a3 := Tryz.isAgg3
  z3 := Tryz.sizeOf3
  v3 := Tryz.zeroValue3
  t4 := Tryz.underlying4
  a4 := Tryz.isAgg4
  z4 := Tryz.sizeOf4
  v4 := Tryz.zeroValue4
  t5 := Tryz.underlying5
  a5 := Tryz.isAgg5
  z5 := Tryz.sizeOf5
  v5 := Tryz.zeroValue5
  t9 := Tryz.underlying9
  a9 := Tryz.isAgg9
  z9 := Tryz.sizeOf9
  v9 := Tryz.zeroValue9
  t20 := Tryz.underlying20
  a20 := Tryz.isAgg20
  z20 := Tryz.sizeOf20
  v20 := Tryz.zeroValue20
  t21 := Tryz.underlying21
  a21 := Tryz.isAgg21
  z21 := Tryz.sizeOf21
  v21 := Tryz.zeroValue21
  t37 := Tryz.underlying47
  a37 := Tryz.isAgg47
  z37 := Tryz.sizeOf47
  v37 := Tryz.zeroValue47
  t46 := Tryz.underlying110
  a46 := Tryz.isAgg110
  z46 := Tryz.sizeOf110
  v46 := Tryz.zeroValue110
  t51 := Tryz.underlying161
  a51 := Tryz.isAgg161
  z51 := Tryz.sizeOf161
  v51 := Tryz.zeroValue161
  t53 := Tryz.underlying98
  a53 := Tryz.isAgg98
  z53 := Tryz.sizeOf98
  v53 := Tryz.zeroValue98
  t75 := Tryz.underlying116
  a75 := Tryz.isAgg116
  z75 := Tryz.sizeOf116
  v75 := Tryz.zeroValue116
  t76 := Tryz.underlying117
  a76 := Tryz.isAgg117
  z76 := Tryz.sizeOf117
  v76 := Tryz.zeroValue117
  t85 := Tryz.underlying163
  a85 := Tryz.isAgg163
  z85 := Tryz.sizeOf163
  v85 := Tryz.zeroValue163
  t127 := Tryz.underlying150
  a127 := Tryz.isAgg150
  z127 := Tryz.sizeOf150
  v127 := Tryz.zeroValue150
  t143 := Tryz.underlying204
  a143 := Tryz.isAgg204
  z143 := Tryz.sizeOf204
  v143 := Tryz.zeroValue204
  t145 := Tryz.underlying206
  a145 := Tryz.isAgg206
  z145 := Tryz.sizeOf206
  v145 := Tryz.zeroValue206
  t167 := Tryz.underlying162
  a167 := Tryz.isAgg162
  z167 := Tryz.sizeOf162
  v167 := Tryz.zeroValue162
  t168 := Tryz.underlying165
  a168 := Tryz.isAgg165
  z168 := Tryz.sizeOf165
  v168 := Tryz.zeroValue165
  t171 := Tryz.underlying145
  a171 := Tryz.isAgg145
  z171 := Tryz.sizeOf145
  v171 := Tryz.zeroValue145
  t173 := Tryz.underlying148
  a173 := Tryz.isAgg148
  z173 := Tryz.sizeOf148
  v173 := Tryz.zeroValue148
  t175 := Tryz.underlying191
  a175 := Tryz.isAgg191
  z175 := Tryz.sizeOf191
  v175 := Tryz.zeroValue191
  t210 := Tryz.underlying194
  a210 := Tryz.isAgg194
  z210 := Tryz.sizeOf194
  v210 := Tryz.zeroValue194
  t212 := Tryz.underlying174
  a212 := Tryz.isAgg174
  z212 := Tryz.sizeOf174
  v212 := Tryz.zeroValue174
  t213 := Tryz.underlying175
  a213 := Tryz.isAgg175
  z213 := Tryz.sizeOf175
  t232 := Tryz.underlying207
  a232 := Tryz.isAgg207
  z232 := Tryz.sizeOf207
  v232 := Tryz.zeroValue207
  t233 := Tryz.underlying208
  a233 := Tryz.isAgg208
  z233 := Tryz.sizeOf208
  v233 := Tryz.zeroValue208
  g15 := by kernel_rfl
  g16 := by kernel_rfl
  g17 := by kernel_rfl
  g18 := by kernel_rfl
  g19 := by kernel_rfl
  t80 := Tryz.underlying79
  a80 := Tryz.isAgg79
  z80 := Tryz.sizeOf79
  v80 := Tryz.zeroValue79
  i0 := by kernel_rfl
  i2 := by kernel_rfl
  i3 := by kernel_rfl
  i4 := by kernel_rfl
  i5 := by kernel_rfl
  i9 := by kernel_rfl
  i20 := by kernel_rfl
  i21 := by kernel_rfl
  i37 := by kernel_rfl
  i46 := by kernel_rfl
  i51 := by kernel_rfl
  i53 := by kernel_rfl
  i75 := by kernel_rfl
  i76 := by kernel_rfl
  i80 := by kernel_rfl
  i85 := by kernel_rfl
  i127 := by kernel_rfl
  i143 := by kernel_rfl
  i145 := by kernel_rfl
  i167 := by kernel_rfl
  i168 := by kernel_rfl
  i171 := by kernel_rfl
  i173 := by kernel_rfl
  i175 := by kernel_rfl
  i210 := by kernel_rfl
  i212 := by kernel_rfl
  i232 := by kernel_rfl
  i233 := by kernel_rfl
  m15 := by kernel_rfl
  m16 := by kernel_rfl
  m17 := by kernel_rfl
  m18 := by kernel_rfl
  m19 := by kernel_rfl
  c0 := by kernel_rfl
  c2 := by kernel_rfl
  c3 := by kernel_rfl
  c4 := by kernel_rfl
  c5 := by kernel_rfl
  c9 := by kernel_rfl
  c20 := by kernel_rfl
  c21 := by kernel_rfl
  c37 := by kernel_rfl
  c46 := by kernel_rfl
  c51 := by kernel_rfl
  c53 := by kernel_rfl
  c75 := by kernel_rfl
  c76 := by kernel_rfl
  c80 := by kernel_rfl
  c85 := by kernel_rfl
  c127 := by kernel_rfl
  c143 := by kernel_rfl
  c145 := by kernel_rfl
  c167 := by kernel_rfl
  c168 := by kernel_rfl
  c171 := by kernel_rfl
  c173 := by kernel_rfl
  c175 := by kernel_rfl
  c210 := by kernel_rfl
  c212 := by kernel_rfl
  c213 := by kernel_rfl
  c232 := by kernel_rfl
  c233 := by kernel_rfl }
open Go.RowKit in
theorem Tryz.strconv_Atoi_ok (s : ByteArray) (hmax : s.size ≤ 9223372036854775806) (v : Int) (h : Lib.atoiAll s.data.toList = .ok v) (w : World) :
    Calls Tryz.prog 83 #[.string s] w fun e w' => e = .returned (.tuple #[.int .i64 v, .nilIface]) ∧ (w' = w ∨ ∃ t, w' = Lib.bytesWorld w 5 t) := Any.strconv_Atoi_ok Tryz.laysC172 s hmax v h w
open Go.RowKit in
theorem Tryz.strconv_Atoi_none (s : ByteArray) (hlim : s.size ≤ 281474976710656) (h1 : ∀ v, Lib.atoiAll s.data.toList ≠ .ok v) (h2 : Lib.atoiAll s.data.toList ≠ .range) (ev : Value) (w : World) (hv : w.cell? ⟨5, 0, none⟩ = some ev) (hev : ev = .nilIface ∨ ∃ te pe, ev = .iface te pe) :
    Calls Tryz.prog 83 #[.string s] w fun e w' => ∃ N, e = .returned (.tuple #[.int .i64 (0), .iface 165 (.pointer (some ⟨N, 0, none⟩))]) ∧ w.heap.size ≤ N ∧ w'.heap[N]? = some (.cells #[.string ⟨#[65, 116, 111, 105]⟩, .string s, ev] 194 (0, 0)) ∧ Below w.heap.size w w' := by
  refine Any.strconv_Atoi_syntax Tryz.laysC172 s hlim ?_ ev w hv hev
  cases hx : Lib.atoiAll s.data.toList with
  | ok v => exact absurd hx (h1 v)
  | range => exact absurd hx h2
  | _ => rfl
open Go.RowKit in
theorem Tryz.strconv_Atoi_range (s : ByteArray) (hlim : s.size ≤ 281474976710656) (h : Lib.atoiAll s.data.toList = .range) (ev : Value) (w : World) (hv : w.cell? ⟨6, 0, none⟩ = some ev) (hev : ev = .nilIface ∨ ∃ te pe, ev = .iface te pe) :
    Calls Tryz.prog 83 #[.string s] w fun e w' => ∃ N, e = .returned (.tuple #[.int .i64 (Lib.atoiSat s.data.toList), .iface 165 (.pointer (some ⟨N, 0, none⟩))]) ∧ w.heap.size ≤ N ∧ w'.heap[N]? = some (.cells #[.string ⟨#[65, 116, 111, 105]⟩, .string s, ev] 194 (0, 0)) ∧ Below w.heap.size w w' := Any.strconv_Atoi_range Tryz.laysC172 s hlim h ev w hv hev
end Go.Proofs
/- What sysl.origin answers of a number's own decimal. Condition: below a thousand; the table of powers stands. -/
namespace Go.Proofs.YtnaijahhogndjaaGreatDoor
open Go.ChangeShapes Go.WideShapes Go.ChangeAt Go.RowKit

def dec3 (n : Nat) : List UInt8 := if n < 10 then [UInt8.ofNat (48 + n)] else if n < 100 then [UInt8.ofNat (48 + n / 10), UInt8.ofNat (48 + n % 10)] else [UInt8.ofNat (48 + n / 100), UInt8.ofNat (48 + n / 10 % 10), UInt8.ofNat (48 + n % 10)]
theorem dec3_eq (n : Nat) (h : n < 1000) : Lib.decDigits n = dec3 n := by
  unfold dec3
  split
  · rename_i h1; exact Lib.decDigits_one h1
  · rename_i h1
    split
    · rename_i h2; exact Lib.decDigits_two h1 h2
    · rename_i h2
      rw [Lib.decDigits, dif_neg h1, Lib.decDigits_two (by omega) (by omega), Nat.div_div_eq_div_mul]
      rfl
theorem atoi_dec3 : ∀ n : Fin 1000, Lib.atoi (dec3 n.val) = some (n.val : Int) := by decide +kernel
theorem atoi_dec (n : Nat) (h : n < 1000) : Lib.atoi (Lib.decDigits n) = some (n : Int) := by
  rw [dec3_eq n h]; exact atoi_dec3 ⟨n, h⟩
set_option maxHeartbeats 1000000 in
set_option maxRecDepth 100000 in
theorem origin_dec (n : Nat) (w : World) (h : n < 1000) (hP : Cal.Pow w) : Calls Tryz.prog 56 #[.string (bytes (Lib.decDigits n))] w fun e w' => e = .returned (.tuple #[.int .i64 ((n : Int) / 8), .int .i64 ((n : Int) % 8), .bool true]) ∧ Below w.heap.size w w' := by
  have hl := dec_len n h
  have HA := Lib.hid (Tryz.strconv_Atoi (bytes (Lib.decDigits n)) n (by rw [bytes_size]; omega) (by rw [bytes_list]; exact atoi_dec n h) w)
  have HI := Lib.hid (fun W (hW : Cal.Pow W) => Tryz.strconv_Itoa n (by omega) (by omega) W hW.2)
  have hit : Lib.itoa (n : Int) = Lib.decDigits n := by
    unfold Lib.itoa
    rw [if_neg (by omega), Int.toNat_natCast]
  rw [hit] at HI
  obtain ⟨D, hD⟩ : ∃ D, bytes (Lib.decDigits n) = D := ⟨_, rfl⟩
  have HI2 := Lib.hid (fun W (hW : Cal.Pow W) => show Calls Tryz.prog 26 #[.int .i64 n] W fun e w' => e = .returned (.string D) ∧ Below W.heap.size W w' from ((HI.out) W hW).mono fun e w' ⟨h1, k, os, h2⟩ => ⟨by rw [h1, ← hD]; rfl, by rw [h2]; exact Cal.grown_below W k os⟩)
  rw [hD] at HA ⊢
  have hq : (D.toList == D.toList) = true := beq_self_eq_true _
  have hp := Lib.hid hP
  clear HI hit hl hD hP
  go_enter Tryz.func56, Tryz.ntmps56
  go_wp2_with fail
  refine HA.out.mono ?_
  rintro e w2 ⟨rfl, t, rfl⟩
  have hb := bytesWorld_below w 5 t
  have hp2 := hp.out.below hb
  generalize Lib.bytesWorld w 5 t = w2 at hb hp2 ⊢
  go_wp2_with fail
  refine (HI2.out _ hp2).mono ?_
  rintro e w3 ⟨rfl, hb3⟩
  have B3 := hb.trans (hb3.mono hb.size)
  clear hb hb3 hp2
  go_wp2
  refine bodyPost_ret (v := .tuple #[.int .i64 ((n : Int) / 8), .int .i64 ((n : Int) % 8), .bool true]) (by simp [results, Tryz.results56, go_sem]) rfl ⟨rfl, B3⟩
end Go.Proofs.YtnaijahhogndjaaGreatDoor
/- What sysl.origin answers of every text. Conditions: the table of powers stands, the two errors' variables hold errors; the size. -/
namespace Go.Proofs.YtnaijahhogndjaaGreatDoor
open Go.ChangeShapes Go.WideShapes Go.ChangeAt Go.RowKit

/-- The library's two errors' variables hold errors. -/
def Errs (w : World) : Prop := 6 < w.heap.size ∧ (∃ tp p, w.cell? ⟨5, 0, none⟩ = some (.iface tp p)) ∧ ∃ tp p, w.cell? ⟨6, 0, none⟩ = some (.iface tp p)
theorem Errs.below {w w' : World} (h : Errs w) (hb : Below w.heap.size w w') : Errs w' := by
  obtain ⟨h1, ⟨t, p, h2⟩, t', p', h3⟩ := h
  exact ⟨Nat.lt_of_lt_of_le h1 hb.size, ⟨t, p, (hb.cell (p := ⟨5, 0, none⟩) (by show 5 < _; omega)).trans h2⟩, t', p', (hb.cell (p := ⟨6, 0, none⟩) h1).trans h3⟩
theorem atoi_bounds {l : List UInt8} {v : Int} (h : Lib.atoiAll l = .ok v) : -9223372036854775808 ≤ v ∧ v ≤ 9223372036854775807 := by
  unfold Lib.atoiAll at h
  split at h
  · cases h
  · dsimp only at h
    split at h
    · cases h
    · cases h
    · split at h
      · cases h
      · split at h
        · cases h
        · cases h
          split <;> omega
/-- What a decimal tells: where from, how grave. -/
def originL (l : List UInt8) : Option (Int × Int) := match Lib.atoiAll l with
  | .ok v => if Lib.itoa v = l then some (v.tdiv 8, v.tmod 8) else none
  | _ => none
def OriginAns (l : List UInt8) (w : World) (e : Ending) (w' : World) : Prop :=
  e = .returned (match originL l with | some p => .tuple #[.int .i64 p.1, .int .i64 p.2, .bool true] | none => .tuple #[.int .i64 0, .int .i64 0, .bool false]) ∧ Below w.heap.size w w'
set_option maxHeartbeats 1000000 in
set_option maxRecDepth 100000 in
theorem origin_any (l : List UInt8) (w : World) (hP : Cal.Pow w) (hE : Errs w) (hl : l.length ≤ 16777216) :
    Calls Tryz.prog 56 #[.string (bytes l)] w (OriginAns l w) := by
  have hz : (bytes l).size = l.length := bytes_size l
  cases ha : Lib.atoiAll l with
  | ok v =>
    obtain ⟨b1, b2⟩ := atoi_bounds ha
    have HA := Lib.hid (Tryz.strconv_Atoi_ok (bytes l) (by omega) v (by rw [bytes_list]; exact ha) w)
    obtain ⟨D, hD⟩ : ∃ D, bytes (Lib.itoa v) = D := ⟨_, rfl⟩
    have HI := Lib.hid (fun W (hW : Cal.Pow W) => show Calls Tryz.prog 26 #[.int .i64 v] W fun e w' => e = .returned (.string D) ∧ Below W.heap.size W w' from (Tryz.strconv_Itoa v b1 b2 W hW.2).mono fun e w' ⟨h1, k, os, h2⟩ => ⟨by rw [h1, ← hD]; rfl, by rw [h2]; exact Cal.grown_below W k os⟩)
    obtain ⟨b, hb⟩ : ∃ b : Bool, decide (Lib.itoa v = l) = b := ⟨_, rfl⟩
    have hq : (D.toList == (bytes l).toList) = b := by
      rw [eq_text, ← hD, ← hb]
      refine decide_eq_decide.2 ⟨fun h => ?_, fun h => by rw [h]⟩
      have := congrArg (fun s : ByteArray => s.data.toList) h
      exact this
    have HO := Lib.hid (show originL l = if b = true then some (v.tdiv 8, v.tmod 8) else none by
      unfold originL
      rw [ha, ← hb]
      simp)
    have hp := Lib.hid hP
    clear hP hE hz ha hD hb
    go_enter Tryz.func56, Tryz.ntmps56
    go_wp2_with fail
    refine HA.out.mono ?_
    rintro e w2 ⟨rfl, hw2⟩
    have hb2 : Below w.heap.size w w2 := by
      rcases hw2 with rfl | ⟨t, rfl⟩
      · exact Below.refl _ _
      · exact bytesWorld_below w 5 t
    have hp2 := hp.out.below hb2
    clear hw2
    go_wp2_with fail
    refine (HI.out _ hp2).mono ?_
    rintro e w3 ⟨rfl, hb3⟩
    have B3 := Lib.hid (hb2.trans (hb3.mono hb2.size))
    clear hb2 hb3 hp2
    cases b with
    | true =>
      go_wp2
      change bodyPost Tryz.prog Tryz.f56 (OriginAns l w) Exit.ret _ _
      refine bodyPost_ret (v := .tuple #[.int .i64 (v.tdiv 8), .int .i64 (v.tmod 8), .bool true]) (by simp [results, Tryz.results56, go_sem]) rfl ⟨?_, B3.out⟩
      rw [HO.out]
      simp
    | false =>
      go_wp2
      change bodyPost Tryz.prog Tryz.f56 (OriginAns l w) Exit.ret _ _
      refine bodyPost_ret (v := .tuple #[.int .i64 0, .int .i64 0, .bool false]) (by simp [results, Tryz.results56, go_sem]) rfl ⟨?_, B3.out⟩
      rw [HO.out]
      simp
  | range =>
    obtain ⟨_, _, tp, p, h6⟩ := hE
    have HA := Lib.hid (Tryz.strconv_Atoi_range (bytes l) (by omega) (by rw [bytes_list]; exact ha) _ w h6 (.inr ⟨_, _, rfl⟩))
    have HO := Lib.hid (show originL l = none by unfold originL; rw [ha])
    clear hP h6 hz ha
    go_enter Tryz.func56, Tryz.ntmps56
    go_wp2_with fail
    refine HA.out.mono ?_
    rintro e w2 ⟨N, rfl, _, _, hb2⟩
    have B2 := Lib.hid hb2
    clear hb2
    go_wp2
    change bodyPost Tryz.prog Tryz.f56 (OriginAns l w) Exit.ret _ _
    refine bodyPost_ret (v := .tuple #[.int .i64 0, .int .i64 0, .bool false]) (by simp [results, Tryz.results56, go_sem]) rfl ⟨?_, B2.out⟩
    rw [HO.out]
  | _ =>
    obtain ⟨_, ⟨tp, p, h5⟩, _⟩ := hE
    have HA := Lib.hid (Tryz.strconv_Atoi_none (bytes l) (by omega) (fun v h => by rw [bytes_list, ha] at h; cases h) (fun h => by rw [bytes_list, ha] at h; cases h) _ w h5 (.inr ⟨_, _, rfl⟩))
    have HO := Lib.hid (show originL l = none by unfold originL; rw [ha])
    clear hP h5 hz ha
    go_enter Tryz.func56, Tryz.ntmps56
    go_wp2_with fail
    refine HA.out.mono ?_
    rintro e w2 ⟨N, rfl, _, _, hb2⟩
    have B2 := Lib.hid hb2
    clear hb2
    go_wp2
    change bodyPost Tryz.prog Tryz.f56 (OriginAns l w) Exit.ret _ _
    refine bodyPost_ret (v := .tuple #[.int .i64 0, .int .i64 0, .bool false]) (by simp [results, Tryz.results56, go_sem]) rfl ⟨?_, B2.out⟩
    rw [HO.out]
end Go.Proofs.YtnaijahhogndjaaGreatDoor
/- What sysl.Parse answers of every text: a right event, or none. Conditions: the tables stand; the size. -/
namespace Go.Proofs.YtnaijahhogndjaaGreatDoor
open Go.ChangeShapes Go.WideShapes Go.ChangeAt Go.RowKit

theorem until_flag {sep r p r' : List UInt8} {f : Bool} (h : untilL sep (r, f) = (p, r', true)) : f = true := by
  have e := congrArg (fun x => x.2.2) h
  have e2 : (f && (Lib.cut r sep).2.2) = true := e
  cases f with
  | true => rfl
  | false => cases e2
theorem told_flag {r p r' : List UInt8} {f : Bool} (h : toldL (r, f) = (p, r', true)) : f = true := by
  have e := congrArg (fun x => x.2.2) h
  have e2 : ((untilL [32] (r, f)).2.2 && decide ((untilL [32] (r, f)).1 ≠ [])) = true := e
  cases f with
  | true => rfl
  | false => cases e2
/-- What is answered of a text that is one. -/
def FitAns (n : Nat) (w : World) (e : Ending) (w' : World) : Prop :=
  ∃ (gr fr at' : Int) (td : Bool) (h a p i tx : List UInt8) (es : List Elm), GoodAns gr fr td at' h a p i tx es w e w' ∧ rightE ⟨gr, fr, td, at', bytes h, bytes a, bytes p, bytes i, es, bytes tx⟩ = 0 ∧ (elmsT es).length ≤ 2 * n ∧ tx.length ≤ n
theorem parse_any (l : List UInt8) (w : World) (hS : Std w) (hm : Max w) (hP : Cal.Pow w) (hE : Errs w) (hl : l.length ≤ 16777216) :
    Calls Tryz.prog 23 #[.string (bytes l)] w fun e w' => BadAns w e w' ∨ FitAns l.length w e w' := by
  rcases h1 : untilL [60] (l, true) with ⟨ahead, r1, f1⟩
  rcases h2 : untilL [62] (r1, f1) with ⟨dec, r2, f2⟩
  rcases h3 : untilL [32] (r2, f2) with ⟨form, r3, f3⟩
  rcases k1 : toldL (r3, f3) with ⟨date, r4, f4⟩
  rcases k2 : toldL (r4, f4) with ⟨h, r5, f5⟩
  rcases k3 : toldL (r5, f5) with ⟨a, r6, f6⟩
  rcases k4 : toldL (r6, f6) with ⟨p, r7, f7⟩
  rcases k5 : toldL (r7, f7) with ⟨i, r8, f8⟩
  have l1 : r1.length ≤ l.length := by have := until_len [60] (l, true); rw [h1] at this; exact this
  have l2 : r2.length ≤ l.length := by have := until_len [62] (r1, f1); rw [h2] at this; exact Nat.le_trans this l1
  have l3 : r3.length ≤ l.length := by have := until_len [32] (r2, f2); rw [h3] at this; exact Nat.le_trans this l2
  have l4 : r4.length ≤ l.length := by have := told_len (r3, f3); rw [k1] at this; exact Nat.le_trans this l3
  have l5 : r5.length ≤ l.length := by have := told_len (r4, f4); rw [k2] at this; exact Nat.le_trans this l4
  have l6 : r6.length ≤ l.length := by have := told_len (r5, f5); rw [k3] at this; exact Nat.le_trans this l5
  have l7 : r7.length ≤ l.length := by have := told_len (r6, f6); rw [k4] at this; exact Nat.le_trans this l6
  have l8 : r8.length ≤ l.length := by have := told_len (r7, f7); rw [k5] at this; exact Nat.le_trans this l7
  have ldec : dec.length ≤ l.length := by have := untilp_len [62] (r1, f1); rw [h2] at this; exact Nat.le_trans this l1
  have ldate : date.length ≤ l.length := Nat.le_trans (toldp_len k1) l3
  by_cases hb : f8 = true ∧ ahead = [] ∧ form = [49]
  case neg => exact (parse_b0 l r1 r2 r3 r4 r5 r6 r7 r8 ahead dec form date h a p i f1 f2 f3 f4 f5 f6 f7 f8 w hm hl h1 h2 h3 k1 k2 k3 k4 k5 hb).mono fun e w' hx => .inl hx
  case pos =>
    obtain ⟨rfl, rfl, rfl⟩ := hb
    obtain rfl := told_flag k5
    obtain rfl := told_flag k4
    obtain rfl := told_flag k3
    obtain rfl := told_flag k2
    obtain rfl := told_flag k1
    obtain rfl := until_flag h3
    obtain rfl := until_flag h2
    have CO0 := fun W (hW : Below w.heap.size w W) => origin_any dec W (hP.below hW) (hE.below hW) (by omega)
    cases ho : originL dec with
    | none =>
      refine (parse_b1 l r1 r2 r3 r4 r5 r6 r7 r8 dec date h a p i w hS hm hl h1 h2 h3 k1 k2 k3 k4 k5 fun W hW => (CO0 W hW).mono fun e w' hx => ?_).mono fun e w' hx => .inl hx
      obtain ⟨he, hbl⟩ := hx
      rw [ho] at he
      exact ⟨he, hbl⟩
    | some fg =>
      obtain ⟨fr, gr⟩ := fg
      have CO : ∀ W, Below w.heap.size w W → Calls Tryz.prog 56 #[.string (bytes dec)] W fun e w' => e = .returned (.tuple #[.int .i64 fr, .int .i64 gr, .bool true]) ∧ Below W.heap.size W w' := fun W hW => (CO0 W hW).mono fun e w' hx => by
        obtain ⟨he, hbl⟩ := hx
        rw [ho] at he
        exact ⟨he, hbl⟩
      rcases moment_cases date (by omega) with ⟨td, at', hM⟩ | hM
      case inr => exact (parse_b2 l r1 r2 r3 r4 r5 r6 r7 r8 dec date h a p i fr gr w hS hm hl h1 h2 h3 k1 k2 k3 k4 k5 CO fun W hW => hM W (hS.below hW).1).mono fun e w' hx => .inl hx
      case inl =>
        have CM := fun W (hW : Below w.heap.size w W) => hM W (hS.below hW).1
        have CE0 := fun W (_ : Below w.heap.size w W) => elements_any r8 W (by omega)
        cases he : elementsL r8 with
        | none =>
          refine (parse_b3 l r1 r2 r3 r4 r5 r6 r7 r8 dec date h a p i fr gr at' td w hS hm hl h1 h2 h3 k1 k2 k3 k4 k5 CO CM fun W hW => (CE0 W hW).mono fun e w' hx => ?_).mono fun e w' hx => .inl hx
          unfold ElementsAns at hx
          rw [he] at hx
          exact hx
        | some er =>
          obtain ⟨es, r9⟩ := er
          have hsum := elements_sum he
          simp only at hsum
          have CE : ∀ W, Below w.heap.size w W → Calls Tryz.prog 58 #[.string (bytes r8)] W fun e w' => ∃ la lc, e = .returned (.tuple #[.slice la es.length lc, .string (bytes r9), .bool true]) ∧ (∀ V, Agree W.heap.size w' V → ElmsAt V (.slice la es.length lc) es) ∧ Below W.heap.size W w' := fun W hW => (CE0 W hW).mono fun e w' hx => by
            unfold ElementsAns at hx
            rw [he] at hx
            exact hx
          rcases hbh : behindL r9 with ⟨tx, fb⟩
          have ltx : tx.length ≤ r9.length := by have := behind_len r9; rw [hbh] at this; exact this
          have CB0 := fun W (_ : Below w.heap.size w W) => behind_any r9 W
          rw [hbh] at CB0
          cases fb with
          | false => exact (parse_b4 l r1 r2 r3 r4 r5 r6 r7 r8 r9 dec date h a p i tx fr gr at' td es w hS hm hl h1 h2 h3 k1 k2 k3 k4 k5 CO CM CE fun W hW => (CB0 W hW).mono fun e w' hx => ⟨hx.1, by rw [hx.2]; exact Below.refl _ _⟩).mono fun e w' hx => .inl hx
          | true =>
            have CB : ∀ W, Below w.heap.size w W → Calls Tryz.prog 59 #[.string (bytes r9)] W fun e w' => e = .returned (.tuple #[.string (bytes tx), .bool true]) ∧ Below W.heap.size W w' := fun W hW => (CB0 W hW).mono fun e w' hx => ⟨hx.1, by rw [hx.2]; exact Below.refl _ _⟩
            have hfit : ElmsFit es := fit_of_len (by omega)
            by_cases hR : rightE ⟨gr, fr, td, at', bytes h, bytes a, bytes p, bytes i, es, bytes tx⟩ = 0
            · refine (parse_fit l r1 r2 r3 r4 r5 r6 r7 r8 r9 dec date h a p i tx fr gr at' td es w hS hm hl h1 h2 h3 k1 k2 k3 k4 k5 CO CM CE CB hfit (by omega) hR).mono fun e w' hx => .inr ?_
              exact ⟨gr, fr, at', td, h, a, p, i, tx, es, hx, hR, by omega, by omega⟩
            · exact (parse_b5 l r1 r2 r3 r4 r5 r6 r7 r8 r9 dec date h a p i tx fr gr at' td es w hS hm hl h1 h2 h3 k1 k2 k3 k4 k5 CO CM CE CB hfit (by omega) _ rfl hR).mono fun e w' hx => .inl hx
/-- A right event's text is parsed as it. -/
theorem parse_printed (g f a : Int) (t : Bool) (ho ap pr id tx : ByteArray) (da : List Elm) (T : List UInt8) (w : World) (hS : Std w) (hm : Max w) (hP : Cal.Pow w)
    (hr : rightE ⟨g, f, t, a, ho, ap, pr, id, da, tx⟩ = 0) (hT : TimeIs t a T) (hl : (elmsT da).length ≤ 8388608) (htx : tx.size ≤ 4194304) :
    Calls Tryz.prog 23 #[.string (bytes (printT g f T ho ap pr id da tx))] w (GoodAns g f t a ho.data.toList ap.data.toList pr.data.toList id.data.toList tx.data.toList da w) := by
  obtain ⟨⟨g1, g2⟩, ⟨f1, f2⟩, tm, ⟨wo1, wo2, wo3, wo4⟩, dd, _, d64, p64⟩ := right_parts hr
  have s1 := word_len wo1 (by decide)
  have s2 := word_len wo2 (by decide)
  have s3 := word_len wo3 (by decide)
  have s4 := word_len wo4 (by decide)
  have tl := time_len hT
  have dl := dec_len (8 * f + g).toNat (by omega)
  have o1 := orB_size ho
  have o2 := orB_size ap
  have o3 := orB_size pr
  have o4 := orB_size id
  have hT0 : T ≠ [] := by
    rcases hT with ⟨_, rfl⟩ | ⟨_, y, m, d, hh, i, s, k, _, rfl⟩
    · decide
    · intro h
      have e := congrArg List.length h
      unfold Cal.dateText at e
      simp only [List.length_append, Cal.pad_length, List.length_cons, List.length_nil] at e
      omega
  have hbt : (behindT tx.data.toList).length ≤ tx.size + 4 := by
    unfold behindT
    split
    · simp
    · simp
  have het : (if da = [] then [45] else elmsT da).length ≤ 8388609 := by
    split
    · simp
    · omega
  rw [printT_parts]
  refine parse_fit _ _ _ _ _ _ _ _ _ (behindT tx.data.toList) (Lib.decDigits (8 * f + g).toNat) (if T = [45] then [] else T) ho.data.toList ap.data.toList pr.data.toList id.data.toList tx.data.toList f g a t da w hS hm ?_
    (until_here 60 _) (until_at 62 _ _ (dec_digs (by omega))) (until_one 49 32 _ (by decide)) (told_at T _ (time_no32 hT) hT0) (told_or wo1 _) (told_or wo2 _) (told_or wo3 _) (told_or wo4 _) ?_ ?_ ?_ ?_ (fit_of_len (by omega)) (by rw [list_size]; omega) ?_
  · simp only [List.length_cons, List.length_append, list_size]
    omega
  · intro W hW
    refine (origin_dec (8 * f + g).toNat W (by omega) (hP.below hW)).mono ?_
    rintro e w' ⟨he, hb⟩
    refine ⟨?_, hb⟩
    rw [he, show (((8 * f + g).toNat : Nat) : Int) / 8 = f by omega, show (((8 * f + g).toNat : Nat) : Int) % 8 = g by omega]
  · exact fun W hW => moment_time hT tm W (hS.below hW).1
  · intro W _
    by_cases hda : da = []
    · subst hda
      rw [if_pos rfl]
      refine (elements_none (behindT tx.data.toList) W).mono ?_
      rintro e w' ⟨he, rfl⟩
      exact ⟨none, 0, he, fun V _ => ElmsAt.nil V none 0, Below.refl _ _⟩
    · rw [if_neg hda]
      refine elements_good da _ W hda d64 (fun e he => ?_) (fun _ => ?_) ?_
      · have hn := data_names dd e he
        exact ⟨hn.1, hn.2, p64 e he⟩
      · rcases behind_head tx.data.toList with h | ⟨r, h⟩
        · rw [h]; rfl
        · rw [h]; rfl
      · rw [List.length_append]; omega
  · intro W _
    refine (behind_any _ W).mono ?_
    rintro e w' ⟨he, rfl⟩
    refine ⟨?_, Below.refl _ _⟩
    rw [he]
    have hbk : behindL (behindT tx.data.toList) = (tx.data.toList, true) := by
      unfold behindT
      split
      · rename_i h; rw [h]; rfl
      · rename_i h
        unfold behindL
        rw [if_neg (by simp)]
        have q1 : Lib.hasPrefix (32 :: 239 :: 187 :: 191 :: tx.data.toList) [32] = true := by simp [Lib.hasPrefix, List.isPrefixOf]
        have q2 : Lib.trimPrefix (32 :: 239 :: 187 :: 191 :: tx.data.toList) [32] = 239 :: 187 :: 191 :: tx.data.toList := by unfold Lib.trimPrefix; rw [q1]; rfl
        have q3 : Lib.hasPrefix (239 :: 187 :: 191 :: tx.data.toList) [239, 187, 191] = true := by simp [Lib.hasPrefix, List.isPrefixOf]
        have q4 : Lib.trimPrefix (239 :: 187 :: 191 :: tx.data.toList) [239, 187, 191] = tx.data.toList := by unfold Lib.trimPrefix; rw [q3]; rfl
        rw [q1, q2, q3, q4]
        rfl
    rw [hbk]
  · simp only [bytes_self]
    exact hr
end Go.Proofs.YtnaijahhogndjaaGreatDoor
