/- The texts Shelf3, Origin, OriginAny, one behind the other. -/
import Derived.Shelf.LaysC
import Derived.Shelf.Strconv.AtoiAll
import Derived.Test.YtmmghppjhmdikaaGreatDoorProg
import Derived.Test.YtmmghppjhmdikaaGreatDoorAF14
import Derived.Test.YtmmghppjhmdikaaGreatDoorAF22
/- Three contracts of the library's Atoi, laid at this program. -/
namespace Go.Proofs
open Go.Shelf
def Tryz.laysC172_ren : Go.Shelf.Ren := ⟨fun | 172 => 42 | 244 => 58 | 245 => 59 | 247 => 87 | 279 => 88 | 280 => 89 | 281 => 90 | 282 => 91 | 287 => 108 | 316 => 109 | 171 => 43 | 205 => 110 | 321 => 130 | 322 => 131 | 243 => 60 | 246 => 92 | 283 => 111 | 284 => 112 | 285 => 113 | 286 => 114 | 129 => 129 | 317 => 132 | 318 => 133 | 319 => 134 | 320 => 135 | 337 => 142 | 338 => 143 | n => n, fun | 9 => 9 | 3 => 3 | 75 => 96 | 76 => 97 | 4 => 4 | 5 => 5 | 167 => 132 | 37 => 65 | 0 => 0 | 85 => 133 | 2 => 2 | 168 => 135 | 53 => 23 | 175 => 151 | 46 => 129 | 210 => 154 | 127 => 174 | 145 => 177 | 143 => 175 | 21 => 21 | 171 => 156 | 173 => 159 | 212 => 179 | 51 => 22 | 20 => 20 | 213 => 180 | 232 => 35 | 233 => 189 | 80 => 81 | n => n, fun | 15 => 3 | 16 => 4 | 17 => 6 | 18 => 7 | 19 => 8 | n => n⟩
theorem Tryz.laysC172 : Go.Proofs.LaysC.n172 Tryz.prog Tryz.laysC172_ren := {
  mixed := by kernel_rfl
  f129 := Tryz.func129.trans (congrArg some (by kernel_rfl))
  f171 := Tryz.func43.trans (congrArg some (by kernel_rfl))
  f172 := Tryz.func42.trans (congrArg some (by kernel_rfl))
  f205 := Tryz.func110.trans (congrArg some (by kernel_rfl))
  f243 := Tryz.func60.trans (congrArg some (by kernel_rfl))
  f244 := Tryz.func58.trans (congrArg some (by kernel_rfl))
  f245 := Tryz.func59.trans (congrArg some (by kernel_rfl))
  f246 := Tryz.func92.trans (congrArg some (by kernel_rfl))
  f247 := Tryz.func87.trans (congrArg some (by kernel_rfl))
  f279 := Tryz.func88.trans (congrArg some (by kernel_rfl))
  f280 := Tryz.func89.trans (congrArg some (by kernel_rfl))
  f281 := Tryz.func90.trans (congrArg some (by kernel_rfl))
  f282 := Tryz.func91.trans (congrArg some (by kernel_rfl))
  f283 := Tryz.func111.trans (congrArg some (by kernel_rfl))
  f284 := Tryz.func112.trans (congrArg some (by kernel_rfl))
  f285 := Tryz.func113.trans (congrArg some (by kernel_rfl))
  f286 := Tryz.func114.trans (congrArg some (by kernel_rfl))
  f287 := Tryz.func108.trans (congrArg some (by kernel_rfl))
  f316 := Tryz.func109.trans (congrArg some (by kernel_rfl))
  f317 := Tryz.func132.trans (congrArg some (by kernel_rfl))
  f318 := Tryz.func133.trans (congrArg some (by kernel_rfl))
  f319 := Tryz.func134.trans (congrArg some (by kernel_rfl))
  f320 := Tryz.func135.trans (congrArg some (by kernel_rfl))
  f321 := Tryz.func130.trans (congrArg some (by kernel_rfl))
  f322 := Tryz.func131.trans (congrArg some (by kernel_rfl))
  f337 := Tryz.func142.trans (congrArg some (by kernel_rfl))
  f338 := Tryz.func143.trans (congrArg some (by kernel_rfl))
  t0 := Tryz.underlying0
  a0 := Tryz.isAgg0
  z0 := Tryz.sizeOf0
  v0 := Tryz.zeroValue0
  t2 := Tryz.underlying2
  a2 := Tryz.isAgg2
  z2 := Tryz.sizeOf2
  v2 := Tryz.zeroValue2
  t3 := Tryz.underlying3
  a3 := Tryz.isAgg3
  z3 := Tryz.sizeOf3
  v3 := Tryz.zeroValue3
  t4 := Tryz.underlying4
  a4 := Tryz.isAgg4
  z4 := Tryz.sizeOf4
  v4 := Tryz.zeroValue4
  t5 := Tryz.underlying5
  a5 := Tryz.isAgg5
  z5 := Tryz.sizeOf5
  v5 := Tryz.zeroValue5
  t9 := Tryz.underlying9
  a9 := Tryz.isAgg9
  z9 := Tryz.sizeOf9
  v9 := Tryz.zeroValue9
  t20 := Tryz.underlying20
  a20 := Tryz.isAgg20
  z20 := Tryz.sizeOf20
  v20 := Tryz.zeroValue20
  t21 := Tryz.underlying21
  a21 := Tryz.isAgg21
  z21 := Tryz.sizeOf21
  v21 := Tryz.zeroValue21
  t37 := Tryz.underlying65
  a37 := Tryz.isAgg65
  z37 := Tryz.sizeOf65
  v37 := Tryz.zeroValue65
  t46 := Tryz.underlying129
  a46 := Tryz.isAgg129
  z46 := Tryz.sizeOf129
  v46 := Tryz.zeroValue129
  t51 := Tryz.underlying22
  a51 := Tryz.isAgg22
  z51 := Tryz.sizeOf22
  v51 := Tryz.zeroValue22
  t53 := Tryz.underlying23
  a53 := Tryz.isAgg23
  z53 := Tryz.sizeOf23
  v53 := Tryz.zeroValue23
  t75 := Tryz.underlying96
  a75 := Tryz.isAgg96
  z75 := Tryz.sizeOf96
  v75 := Tryz.zeroValue96
  t76 := Tryz.underlying97
  a76 := Tryz.isAgg97
  z76 := Tryz.sizeOf97
  v76 := Tryz.zeroValue97
  t85 := Tryz.underlying133
  a85 := Tryz.isAgg133
  z85 := Tryz.sizeOf133
  v85 := Tryz.zeroValue133
  t127 := Tryz.underlying174
  a127 := Tryz.isAgg174
  z127 := Tryz.sizeOf174
  v127 := Tryz.zeroValue174
  t143 := Tryz.underlying175
  a143 := Tryz.isAgg175
  z143 := Tryz.sizeOf175
  v143 := Tryz.zeroValue175
  t145 := Tryz.underlying177
  a145 := Tryz.isAgg177
  z145 := Tryz.sizeOf177
  v145 := Tryz.zeroValue177
  t167 := Tryz.underlying132
  a167 := Tryz.isAgg132
  z167 := Tryz.sizeOf132
  v167 := Tryz.zeroValue132
  t168 := Tryz.underlying135
  a168 := Tryz.isAgg135
  z168 := Tryz.sizeOf135
  v168 := Tryz.zeroValue135
  t171 := Tryz.underlying156
  a171 := Tryz.isAgg156
  z171 := Tryz.sizeOf156
  v171 := Tryz.zeroValue156
  t173 := Tryz.underlying159
  a173 := Tryz.isAgg159
  z173 := Tryz.sizeOf159
  v173 := Tryz.zeroValue159
  t175 := Tryz.underlying151
  a175 := Tryz.isAgg151
  z175 := Tryz.sizeOf151
  v175 := Tryz.zeroValue151
  t210 := Tryz.underlying154
  a210 := Tryz.isAgg154
  z210 := Tryz.sizeOf154
  v210 := Tryz.zeroValue154
  t212 := Tryz.underlying179
  a212 := Tryz.isAgg179
  z212 := Tryz.sizeOf179
  v212 := Tryz.zeroValue179
  t213 := Tryz.underlying180
  a213 := Tryz.isAgg180
  z213 := Tryz.sizeOf180
  t232 := Tryz.underlying35
  a232 := Tryz.isAgg35
  z232 := Tryz.sizeOf35
  v232 := Tryz.zeroValue35
  t233 := Tryz.underlying189
  a233 := Tryz.isAgg189
  z233 := Tryz.sizeOf189
  v233 := Tryz.zeroValue189
  g15 := by kernel_rfl
  g16 := by kernel_rfl
  g17 := by kernel_rfl
  g18 := by kernel_rfl
  g19 := by kernel_rfl
  t80 := Tryz.underlying81
  a80 := Tryz.isAgg81
  z80 := Tryz.sizeOf81
  v80 := Tryz.zeroValue81
  i0 := by kernel_rfl
  i2 := by kernel_rfl
  i3 := by kernel_rfl
  i4 := by kernel_rfl
  i5 := by kernel_rfl
  i9 := by kernel_rfl
  i20 := by kernel_rfl
  i21 := by kernel_rfl
  i37 := by kernel_rfl
  i46 := by kernel_rfl
  i51 := by kernel_rfl
  i53 := by kernel_rfl
  i75 := by kernel_rfl
  i76 := by kernel_rfl
  i80 := by kernel_rfl
  i85 := by kernel_rfl
  i127 := by kernel_rfl
  i143 := by kernel_rfl
  i145 := by kernel_rfl
  i167 := by kernel_rfl
  i168 := by kernel_rfl
  i171 := by kernel_rfl
  i173 := by kernel_rfl
  i175 := by kernel_rfl
  i210 := by kernel_rfl
  i212 := by kernel_rfl
  i232 := by kernel_rfl
  i233 := by kernel_rfl
  m15 := by kernel_rfl
  m16 := by kernel_rfl
  m17 := by kernel_rfl
  m18 := by kernel_rfl
  m19 := by kernel_rfl
  c0 := by kernel_rfl
  c2 := by kernel_rfl
  c3 := by kernel_rfl
  c4 := by kernel_rfl
  c5 := by kernel_rfl
  c9 := by kernel_rfl
  c20 := by kernel_rfl
  c21 := by kernel_rfl
  c37 := by kernel_rfl
  c46 := by kernel_rfl
  c51 := by kernel_rfl
  c53 := by kernel_rfl
  c75 := by kernel_rfl
  c76 := by kernel_rfl
  c80 := by kernel_rfl
  c85 := by kernel_rfl
  c127 := by kernel_rfl
  c143 := by kernel_rfl
  c145 := by kernel_rfl
  c167 := by kernel_rfl
  c168 := by kernel_rfl
  c171 := by kernel_rfl
  c173 := by kernel_rfl
  c175 := by kernel_rfl
  c210 := by kernel_rfl
  c212 := by kernel_rfl
  c213 := by kernel_rfl
  c232 := by kernel_rfl
  c233 := by kernel_rfl }
open Go.RowKit in
theorem Tryz.strconv_Atoi_ok (s : ByteArray) (hmax : s.size ≤ 9223372036854775806) (v : Int) (h : Lib.atoiAll s.data.toList = .ok v) (w : World) :
    Calls Tryz.prog 42 #[.string s] w fun e w' => e = .returned (.tuple #[.int .i64 v, .nilIface]) ∧ (w' = w ∨ ∃ t, w' = Lib.bytesWorld w 5 t) := Any.strconv_Atoi_ok Tryz.laysC172 s hmax v h w
open Go.RowKit in
theorem Tryz.strconv_Atoi_none (s : ByteArray) (hlim : s.size ≤ 281474976710656) (h1 : ∀ v, Lib.atoiAll s.data.toList ≠ .ok v) (h2 : Lib.atoiAll s.data.toList ≠ .range) (ev : Value) (w : World) (hv : w.cell? ⟨3, 0, none⟩ = some ev) (hev : ev = .nilIface ∨ ∃ te pe, ev = .iface te pe) :
    Calls Tryz.prog 42 #[.string s] w fun e w' => ∃ N, e = .returned (.tuple #[.int .i64 (0), .iface 135 (.pointer (some ⟨N, 0, none⟩))]) ∧ w.heap.size ≤ N ∧ w'.heap[N]? = some (.cells #[.string ⟨#[65, 116, 111, 105]⟩, .string s, ev] 154 (0, 0)) ∧ Below w.heap.size w w' := by
  refine Any.strconv_Atoi_syntax Tryz.laysC172 s hlim ?_ ev w hv hev
  cases hx : Lib.atoiAll s.data.toList with
  | ok v => exact absurd hx (h1 v)
  | range => exact absurd hx h2
  | _ => rfl
open Go.RowKit in
theorem Tryz.strconv_Atoi_range (s : ByteArray) (hlim : s.size ≤ 281474976710656) (h : Lib.atoiAll s.data.toList = .range) (ev : Value) (w : World) (hv : w.cell? ⟨4, 0, none⟩ = some ev) (hev : ev = .nilIface ∨ ∃ te pe, ev = .iface te pe) :
    Calls Tryz.prog 42 #[.string s] w fun e w' => ∃ N, e = .returned (.tuple #[.int .i64 (Lib.atoiSat s.data.toList), .iface 135 (.pointer (some ⟨N, 0, none⟩))]) ∧ w.heap.size ≤ N ∧ w'.heap[N]? = some (.cells #[.string ⟨#[65, 116, 111, 105]⟩, .string s, ev] 154 (0, 0)) ∧ Below w.heap.size w w' := Any.strconv_Atoi_range Tryz.laysC172 s hlim h ev w hv hev
end Go.Proofs
/- What sysl.origin answers of a number's own decimal. Condition: below a thousand; the table of powers stands. -/
namespace Go.Proofs.YtmmghppjhmdikaaGreatDoor
open Go.ChangeShapes Go.WideShapes Go.ChangeAt Go.RowKit

def dec3 (n : Nat) : List UInt8 := if n < 10 then [UInt8.ofNat (48 + n)] else if n < 100 then [UInt8.ofNat (48 + n / 10), UInt8.ofNat (48 + n % 10)] else [UInt8.ofNat (48 + n / 100), UInt8.ofNat (48 + n / 10 % 10), UInt8.ofNat (48 + n % 10)]
theorem dec3_eq (n : Nat) (h : n < 1000) : Lib.decDigits n = dec3 n := by
  unfold dec3
  split
  · rename_i h1; exact Lib.decDigits_one h1
  · rename_i h1
    split
    · rename_i h2; exact Lib.decDigits_two h1 h2
    · rename_i h2
      rw [Lib.decDigits, dif_neg h1, Lib.decDigits_two (by omega) (by omega), Nat.div_div_eq_div_mul]
      rfl
theorem atoi_dec3 : ∀ n : Fin 1000, Lib.atoi (dec3 n.val) = some (n.val : Int) := by decide +kernel
theorem atoi_dec (n : Nat) (h : n < 1000) : Lib.atoi (Lib.decDigits n) = some (n : Int) := by
  rw [dec3_eq n h]; exact atoi_dec3 ⟨n, h⟩
set_option maxHeartbeats 1000000 in
set_option maxRecDepth 100000 in
theorem origin_dec (n : Nat) (w : World) (h : n < 1000) (hP : Cal.Pow w) : Calls Tryz.prog 31 #[.string (bytes (Lib.decDigits n))] w fun e w' => e = .returned (.tuple #[.int .i64 ((n : Int) / 8), .int .i64 ((n : Int) % 8), .bool true]) ∧ Below w.heap.size w w' := by
  have hl := dec_len n h
  have HA := Lib.hid (Tryz.strconv_Atoi (bytes (Lib.decDigits n)) n (by rw [bytes_size]; omega) (by rw [bytes_list]; exact atoi_dec n h) w)
  have HI := Lib.hid (fun W (hW : Cal.Pow W) => Tryz.strconv_Itoa n (by omega) (by omega) W hW.2)
  have hit : Lib.itoa (n : Int) = Lib.decDigits n := by
    unfold Lib.itoa
    rw [if_neg (by omega), Int.toNat_natCast]
  rw [hit] at HI
  obtain ⟨D, hD⟩ : ∃ D, bytes (Lib.decDigits n) = D := ⟨_, rfl⟩
  have HI2 := Lib.hid (fun W (hW : Cal.Pow W) => show Calls Tryz.prog 43 #[.int .i64 n] W fun e w' => e = .returned (.string D) ∧ Below W.heap.size W w' from ((HI.out) W hW).mono fun e w' ⟨h1, k, os, h2⟩ => ⟨by rw [h1, ← hD]; rfl, by rw [h2]; exact Cal.grown_below W k os⟩)
  rw [hD] at HA ⊢
  have hq : (D.toList == D.toList) = true := beq_self_eq_true _
  have hp := Lib.hid hP
  clear HI hit hl hD hP
  go_enter Tryz.func31, Tryz.ntmps31
  go_wp2_with fail
  refine HA.out.mono ?_
  rintro e w2 ⟨rfl, t, rfl⟩
  have hb := bytesWorld_below w 5 t
  have hp2 := hp.out.below hb
  generalize Lib.bytesWorld w 5 t = w2 at hb hp2 ⊢
  go_wp2_with fail
  refine (HI2.out _ hp2).mono ?_
  rintro e w3 ⟨rfl, hb3⟩
  have B3 := hb.trans (hb3.mono hb.size)
  clear hb hb3 hp2
  go_wp2
  refine bodyPost_ret (v := .tuple #[.int .i64 ((n : Int) / 8), .int .i64 ((n : Int) % 8), .bool true]) (by simp [results, Tryz.results31, go_sem]) rfl ⟨rfl, B3⟩
end Go.Proofs.YtmmghppjhmdikaaGreatDoor
/- What sysl.origin answers of every text. Conditions: the table of powers stands, the two errors' variables hold errors; the size. -/
namespace Go.Proofs.YtmmghppjhmdikaaGreatDoor
open Go.ChangeShapes Go.WideShapes Go.ChangeAt Go.RowKit

/-- The library's two errors' variables hold errors. -/
def Errs (w : World) : Prop := 4 < w.heap.size ∧ (∃ tp p, w.cell? ⟨3, 0, none⟩ = some (.iface tp p)) ∧ ∃ tp p, w.cell? ⟨4, 0, none⟩ = some (.iface tp p)
theorem Errs.below {w w' : World} (h : Errs w) (hb : Below w.heap.size w w') : Errs w' := by
  obtain ⟨h1, ⟨t, p, h2⟩, t', p', h3⟩ := h
  exact ⟨Nat.lt_of_lt_of_le h1 hb.size, ⟨t, p, (hb.cell (p := ⟨3, 0, none⟩) (by show 3 < _; omega)).trans h2⟩, t', p', (hb.cell (p := ⟨4, 0, none⟩) h1).trans h3⟩
theorem atoi_bounds {l : List UInt8} {v : Int} (h : Lib.atoiAll l = .ok v) : -9223372036854775808 ≤ v ∧ v ≤ 9223372036854775807 := by
  unfold Lib.atoiAll at h
  split at h
  · cases h
  · dsimp only at h
    split at h
    · cases h
    · cases h
    · split at h
      · cases h
      · split at h
        · cases h
        · cases h
          split <;> omega
/-- What a decimal tells: where from, how grave. -/
def originL (l : List UInt8) : Option (Int × Int) := match Lib.atoiAll l with
  | .ok v => if Lib.itoa v = l then some (v.tdiv 8, v.tmod 8) else none
  | _ => none
def OriginAns (l : List UInt8) (w : World) (e : Ending) (w' : World) : Prop :=
  e = .returned (match originL l with | some p => .tuple #[.int .i64 p.1, .int .i64 p.2, .bool true] | none => .tuple #[.int .i64 0, .int .i64 0, .bool false]) ∧ Below w.heap.size w w'
set_option maxHeartbeats 1000000 in
set_option maxRecDepth 100000 in
theorem origin_any (l : List UInt8) (w : World) (hP : Cal.Pow w) (hE : Errs w) (hl : l.length ≤ 16777216) :
    Calls Tryz.prog 31 #[.string (bytes l)] w (OriginAns l w) := by
  have hz : (bytes l).size = l.length := bytes_size l
  cases ha : Lib.atoiAll l with
  | ok v =>
    obtain ⟨b1, b2⟩ := atoi_bounds ha
    have HA := Lib.hid (Tryz.strconv_Atoi_ok (bytes l) (by omega) v (by rw [bytes_list]; exact ha) w)
    obtain ⟨D, hD⟩ : ∃ D, bytes (Lib.itoa v) = D := ⟨_, rfl⟩
    have HI := Lib.hid (fun W (hW : Cal.Pow W) => show Calls Tryz.prog 43 #[.int .i64 v] W fun e w' => e = .returned (.string D) ∧ Below W.heap.size W w' from (Tryz.strconv_Itoa v b1 b2 W hW.2).mono fun e w' ⟨h1, k, os, h2⟩ => ⟨by rw [h1, ← hD]; rfl, by rw [h2]; exact Cal.grown_below W k os⟩)
    obtain ⟨b, hb⟩ : ∃ b : Bool, decide (Lib.itoa v = l) = b := ⟨_, rfl⟩
    have hq : (D.toList == (bytes l).toList) = b := by
      rw [eq_text, ← hD, ← hb]
      refine decide_eq_decide.2 ⟨fun h => ?_, fun h => by rw [h]⟩
      have := congrArg (fun s : ByteArray => s.data.toList) h
      exact this
    have HO := Lib.hid (show originL l = if b = true then some (v.tdiv 8, v.tmod 8) else none by
      unfold originL
      rw [ha, ← hb]
      simp)
    have hp := Lib.hid hP
    clear hP hE hz ha hD hb
    go_enter Tryz.func31, Tryz.ntmps31
    go_wp2_with fail
    refine HA.out.mono ?_
    rintro e w2 ⟨rfl, hw2⟩
    have hb2 : Below w.heap.size w w2 := by
      rcases hw2 with rfl | ⟨t, rfl⟩
      · exact Below.refl _ _
      · exact bytesWorld_below w 5 t
    have hp2 := hp.out.below hb2
    clear hw2
    go_wp2_with fail
    refine (HI.out _ hp2).mono ?_
    rintro e w3 ⟨rfl, hb3⟩
    have B3 := Lib.hid (hb2.trans (hb3.mono hb2.size))
    clear hb2 hb3 hp2
    cases b with
    | true =>
      go_wp2
      change bodyPost Tryz.prog Tryz.f31 (OriginAns l w) Exit.ret _ _
      refine bodyPost_ret (v := .tuple #[.int .i64 (v.tdiv 8), .int .i64 (v.tmod 8), .bool true]) (by simp [results, Tryz.results31, go_sem]) rfl ⟨?_, B3.out⟩
      rw [HO.out]
      simp
    | false =>
      go_wp2
      change bodyPost Tryz.prog Tryz.f31 (OriginAns l w) Exit.ret _ _
      refine bodyPost_ret (v := .tuple #[.int .i64 0, .int .i64 0, .bool false]) (by simp [results, Tryz.results31, go_sem]) rfl ⟨?_, B3.out⟩
      rw [HO.out]
      simp
  | range =>
    obtain ⟨_, _, tp, p, h6⟩ := hE
    have HA := Lib.hid (Tryz.strconv_Atoi_range (bytes l) (by omega) (by rw [bytes_list]; exact ha) _ w h6 (.inr ⟨_, _, rfl⟩))
    have HO := Lib.hid (show originL l = none by unfold originL; rw [ha])
    clear hP h6 hz ha
    go_enter Tryz.func31, Tryz.ntmps31
    go_wp2_with fail
    refine HA.out.mono ?_
    rintro e w2 ⟨N, rfl, _, _, hb2⟩
    have B2 := Lib.hid hb2
    clear hb2
    go_wp2
    change bodyPost Tryz.prog Tryz.f31 (OriginAns l w) Exit.ret _ _
    refine bodyPost_ret (v := .tuple #[.int .i64 0, .int .i64 0, .bool false]) (by simp [results, Tryz.results31, go_sem]) rfl ⟨?_, B2.out⟩
    rw [HO.out]
  | _ =>
    obtain ⟨_, ⟨tp, p, h5⟩, _⟩ := hE
    have HA := Lib.hid (Tryz.strconv_Atoi_none (bytes l) (by omega) (fun v h => by rw [bytes_list, ha] at h; cases h) (fun h => by rw [bytes_list, ha] at h; cases h) _ w h5 (.inr ⟨_, _, rfl⟩))
    have HO := Lib.hid (show originL l = none by unfold originL; rw [ha])
    clear hP h5 hz ha
    go_enter Tryz.func31, Tryz.ntmps31
    go_wp2_with fail
    refine HA.out.mono ?_
    rintro e w2 ⟨N, rfl, _, _, hb2⟩
    have B2 := Lib.hid hb2
    clear hb2
    go_wp2
    change bodyPost Tryz.prog Tryz.f31 (OriginAns l w) Exit.ret _ _
    refine bodyPost_ret (v := .tuple #[.int .i64 0, .int .i64 0, .bool false]) (by simp [results, Tryz.results31, go_sem]) rfl ⟨?_, B2.out⟩
    rw [HO.out]
end Go.Proofs.YtmmghppjhmdikaaGreatDoor
