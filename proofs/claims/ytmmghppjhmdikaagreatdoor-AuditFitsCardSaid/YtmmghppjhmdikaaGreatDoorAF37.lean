/- What the library's IndexAny answers of the four signs that end a name, at every text; and so what element's second closure answers. -/
import Derived.Test.YtmmghppjhmdikaaGreatDoorAF14
import Derived.Laws.Runes
import Derived.Laws.RangeAny
import Derived.Lib.MapLaws
import Derived.RegionTactic
import Derived.Lib.OthersKept
import Derived.ScopeJumps
import Derived.WalkMore
import Derived.Deep.RegionHeld3
import Derived.Test.YtmmghppjhmdikaaGreatDoorAF7
namespace Go.Proofs.YtmmghppjhmdikaaGreatDoor
open Go.ChangeShapes Go.WideShapes Go.ChangeAt Go.RowKit

theorem index_none (c : UInt8) : ∀ l : List UInt8, (∀ b ∈ l, b ≠ c) → Lib.indexByte l c = -1
  | [], _ => rfl
  | b :: l, h => by
    have hb : (b == c) = false := beq_eq_false_iff_ne.2 (h b (by simp))
    unfold Lib.indexByte
    rw [hb, index_none c l fun x hx => h x (by simp [hx])]
    rfl
theorem index_high (s : ByteArray) (c : Int) (w : World) (hs : ∀ b ∈ s.data.toList, b.toNat < 128) (h1 : 128 ≤ c) (h2 : c < 256) :
    Calls Tryz.prog 117 #[.string s, .int .u8 c] w fun e w' => e = .returned (.int .i64 (-1)) ∧ w' = w := by
  have h := Tryz.strings_IndexByte s c w
  rw [index_none] at h
  · exact h
  · intro b hb e
    have := hs b hb
    rw [e] at this
    have hc : (c.toNat.toUInt8).toNat = c.toNat := by
      rw [Nat.toUInt8_eq, UInt8.toNat_ofNat']
      omega
    omega
theorem high_sub (k : Nat) : ∀ b ∈ (nameEnds.extract k nameEnds.size).data.toList, b.toNat < 128 := by
  intro b hb
  have hm := mem_extract hb
  have : b ∈ [(61 : UInt8), 93, 34, 32] := hm
  simp at this
  rcases this with rfl | rfl | rfl | rfl <;> decide
set_option maxRecDepth 100000 in
theorem valid_high (c : Int) (w : World) (hc : (128 ≤ c ∧ c < 55296) ∨ (57344 ≤ c ∧ c ≤ 1114111)) :
    Calls Tryz.prog 118 #[.int .i32 c] w fun e w' => e = .returned (.bool true) ∧ w' = w := by
  go_enter Tryz.func118, Tryz.ntmps118
  go_wp2
  all_goals first
    | (go_ret; exact ⟨rfl, rfl⟩)
    | (exfalso; omega)
set_option maxHeartbeats 4000000 in
set_option maxRecDepth 100000 in
theorem rune_high (c : Int) (w : World) (hc : (128 ≤ c ∧ c < 55296) ∨ (57344 ≤ c ∧ c ≤ 1114111)) (hne : c ≠ 65533) :
    Calls Tryz.prog 95 #[.string nameEnds, .int .i32 c] w fun e w' => e = .returned (.int .i64 (-1)) ∧ Below w.heap.size w w' := by
  have hv : Utf8.valid c = true := by
    rw [validRune_eq]
    unfold validRune
    exact decide_eq_true (by omega)
  obtain ⟨e1, e2, e3⟩ := encode_facts c hv (by omega)
  have HV := Lib.hid (fun W => valid_high c W hc)
  obtain ⟨D, hD⟩ : ∃ D, Utf8.encode c = D := ⟨_, rfl⟩
  rw [hD] at e1 e2 e3
  have q0 : (c == 65533) = false := beq_eq_false_iff_ne.2 hne
  have hv0 : ¬ (c < 128) := by omega
  have hv1 : (0 : Int) ≤ c := by omega
  have hcv : ∀ W, (convert 21 9 (.int .i32 c)).run Tryz.prog W = .ok (.string D) W := fun W => by
    rw [← hD]; exact run_convert_int_string W 21 9 .i32 c (by rw [Tryz.underlying21]; rfl) Tryz.underlying9
  clear hv hc hne hD
  go_enter Tryz.func95, Tryz.ntmps95
  go_wp2_with fail
  refine (HV.out _).mono ?_
  rintro e w' ⟨rfl, rfl⟩
  go_wp2
  go_step3
  rcases (show D.size = 2 ∨ D.size = 3 ∨ D.size = 4 by omega) with hz | hz | hz
  · obtain ⟨d, hd⟩ : ∃ d : UInt8, D[1]'(by omega) = d := ⟨_, rfl⟩
    have hd128 : 128 ≤ d.toNat := by
      have h := e3 (by omega)
      simp only [hz] at h
      rw [← hd]; exact h
    have hd256 := d.toNat_lt
    have q1 : (((93 : UInt8).toNat : Int) != (d.toNat : Int)) = true := by rw [bne, beq_eq_false_iff_ne.2 (by have : (93 : UInt8).toNat = 93 := rfl; omega)]; rfl
    have q2 : ((93 : Int) != (d.toNat : Int)) = true := by rw [bne, beq_eq_false_iff_ne.2 (by omega)]; rfl
    have q3 : (((nameEnds[1]'(by decide)).toNat : Int) != (d.toNat : Int)) = true := by rw [show nameEnds[1]'(by decide) = 93 from rfl]; exact q1
    have hw : IntKind.i64.wrap 2 = 2 := wrap_small _ (by omega) (by omega)
    have HI1 : Hid (∀ W, Calls Tryz.prog 117 #[.string (nameEnds.extract 2 4), .int .u8 (d.toNat : Int)] W fun e w' => e = .returned (.int .i64 (-1)) ∧ w' = W) := Lib.hid fun W => index_high _ _ W (high_sub 2) (by omega) (by omega)
    clear e3
    go_wp2
    go_loopw [9] (fun i wr => i = .int .i64 1 ∧ wr = w') (fun _ _ => 0)
    case atStart => exact ⟨rfl, rfl⟩
    case round =>
      obtain ⟨rfl, rfl⟩ := hrel
      go_wp2
      go_step3
      go_wp2_with fail
      go_quiet (fail)
      go_wp2_with fail
      have hB0 := drewN_b wr nq
      have hB1 : Below wr.heap.size wr (wr.drewN nq).drew := hB0.trans ((drewN_b (wr.drewN nq) 1).mono hB0.size)
      go_region_held3 (fun W => Below wr.heap.size wr W)
        (first | assumption | exact hB1 | exact hB0)
        (first | (go_at_call 117; (with_reducible refine (HI1.out _).mono ?_); rintro e w' ⟨rfl, rfl⟩))
      go_wp2
      change bodyPost Tryz.prog Tryz.f95 (fun e W => e = .returned (.int .i64 (-1)) ∧ Below wr.heap.size wr W) Exit.ret _ _
      go_ret
      exact ⟨rfl, by assumption⟩
  · obtain ⟨d, hd⟩ : ∃ d : UInt8, D[2]'(by omega) = d := ⟨_, rfl⟩
    have hd128 : 128 ≤ d.toNat := by
      have h := e3 (by omega)
      simp only [hz] at h
      rw [← hd]; exact h
    have hd256 := d.toNat_lt
    have q1 : (((34 : UInt8).toNat : Int) != (d.toNat : Int)) = true := by rw [bne, beq_eq_false_iff_ne.2 (by have : (34 : UInt8).toNat = 34 := rfl; omega)]; rfl
    have q2 : ((34 : Int) != (d.toNat : Int)) = true := by rw [bne, beq_eq_false_iff_ne.2 (by omega)]; rfl
    have q3 : (((nameEnds[2]'(by decide)).toNat : Int) != (d.toNat : Int)) = true := by rw [show nameEnds[2]'(by decide) = 34 from rfl]; exact q1
    have hw : IntKind.i64.wrap 3 = 3 := wrap_small _ (by omega) (by omega)
    have HI1 : Hid (∀ W, Calls Tryz.prog 117 #[.string (nameEnds.extract 3 4), .int .u8 (d.toNat : Int)] W fun e w' => e = .returned (.int .i64 (-1)) ∧ w' = W) := Lib.hid fun W => index_high _ _ W (high_sub 3) (by omega) (by omega)
    clear e3
    go_wp2
    go_loopw [9] (fun i wr => i = .int .i64 2 ∧ wr = w') (fun _ _ => 0)
    case atStart => exact ⟨rfl, rfl⟩
    case round =>
      obtain ⟨rfl, rfl⟩ := hrel
      go_wp2
      go_step3
      go_wp2_with fail
      go_quiet (fail)
      go_wp2_with fail
      have hB0 := drewN_b wr nq
      have hB1 : Below wr.heap.size wr (wr.drewN nq).drew := hB0.trans ((drewN_b (wr.drewN nq) 1).mono hB0.size)
      go_region_held3 (fun W => Below wr.heap.size wr W)
        (first | assumption | exact hB1 | exact hB0)
        (first | (go_at_call 117; (with_reducible refine (HI1.out _).mono ?_); rintro e w' ⟨rfl, rfl⟩))
      go_wp2
      change bodyPost Tryz.prog Tryz.f95 (fun e W => e = .returned (.int .i64 (-1)) ∧ Below wr.heap.size wr W) Exit.ret _ _
      go_ret
      exact ⟨rfl, by assumption⟩
  · obtain ⟨d, hd⟩ : ∃ d : UInt8, D[3]'(by omega) = d := ⟨_, rfl⟩
    have hd128 : 128 ≤ d.toNat := by
      have h := e3 (by omega)
      simp only [hz] at h
      rw [← hd]; exact h
    have hd256 := d.toNat_lt
    have q1 : (((32 : UInt8).toNat : Int) != (d.toNat : Int)) = true := by rw [bne, beq_eq_false_iff_ne.2 (by have : (32 : UInt8).toNat = 32 := rfl; omega)]; rfl
    have q2 : ((32 : Int) != (d.toNat : Int)) = true := by rw [bne, beq_eq_false_iff_ne.2 (by omega)]; rfl
    have q3 : (((nameEnds[3]'(by decide)).toNat : Int) != (d.toNat : Int)) = true := by rw [show nameEnds[3]'(by decide) = 32 from rfl]; exact q1
    have hw : IntKind.i64.wrap 4 = 4 := wrap_small _ (by omega) (by omega)
    have HI1 : Hid (∀ W, Calls Tryz.prog 117 #[.string (ByteArray.empty), .int .u8 (d.toNat : Int)] W fun e w' => e = .returned (.int .i64 (-1)) ∧ w' = W) := Lib.hid fun W => index_high _ _ W (by intro b hb; cases hb) (by omega) (by omega)
    clear e3
    go_wp2
    go_loopw [9] (fun i wr => i = .int .i64 3 ∧ wr = w') (fun _ _ => 0)
    case atStart => exact ⟨rfl, rfl⟩
    case round =>
      obtain ⟨rfl, rfl⟩ := hrel
      go_wp2
      go_step3
      go_wp2_with fail
      go_quiet (fail)
      go_wp2_with fail
      have hB0 := drewN_b wr nq
      have hB1 : Below wr.heap.size wr (wr.drewN nq).drew := hB0.trans ((drewN_b (wr.drewN nq) 1).mono hB0.size)
      go_region_held3 (fun W => Below wr.heap.size wr W)
        (first | assumption | exact hB1 | exact hB0)
        (first | (go_at_call 117; (with_reducible refine (HI1.out _).mono ?_); rintro e w' ⟨rfl, rfl⟩))
      go_wp2
      change bodyPost Tryz.prog Tryz.f95 (fun e W => e = .returned (.int .i64 (-1)) ∧ Below wr.heap.size wr W) Exit.ret _ _
      go_ret
      exact ⟨rfl, by assumption⟩
set_option maxHeartbeats 4000000 in
set_option maxRecDepth 100000 in
theorem rune_bad (w : World) : Calls Tryz.prog 95 #[.string nameEnds, .int .i32 65533] w fun e w' => e = .returned (.int .i64 (-1)) ∧ Below w.heap.size w w' := by
  go_enter Tryz.func95, Tryz.ntmps95
  go_wp2
  go_loopg [5, 6] 4 (fun g _ _ wx => ∃ i : Nat, i ≤ 4 ∧ i + g = 4 ∧ wx = w.iter nameEnds i)
  case atStart => exact ⟨0, by omega, by omega, rfl⟩
  case round =>
    obtain ⟨i, hik, hig, rfl⟩ := hrel
    have hsz : nameEnds.size = 4 := rfl
    have HB := Lib.hid (iter_below w nameEnds i)
    cases gk with
    | zero =>
      have hi : ¬ i < nameEnds.size := by omega
      have hend := fun ty => run_next_end (P := Tryz.prog) w nameEnds i ty hi
      go_wp2
      go_ret
      exact ⟨rfl, HB.out⟩
    | succ g =>
      have hi : i < nameEnds.size := by omega
      obtain ⟨x, hx⟩ : ∃ x : UInt8, nameEnds[i]'hi = x := ⟨_, rfl⟩
      have hxl : nameEnds.data.toList[i]? = some x := by rw [← hx]; exact Lib.data_getElem? nameEnds i hi
      have hx128 : x.toNat < 128 := ends_plain i x hxl
      have hnx := fun ty => run_next_ascii (P := Tryz.prog) w nameEnds i ty hi (by rw [hx]; exact hx128)
      rw [hx] at hnx
      have q : (((x.toNat : Nat) : Int) == 65533) = false := beq_eq_false_iff_ne.2 (by omega)
      clear hxl hx
      go_wp2
      go_roundg g
      case measure => omega
      case rel => exact ⟨i + 1, by omega, by omega, rfl⟩
/-- No rune at which a byte above 127 stands is one of the four signs; and its bytes are all above 127. -/
theorem high_rune (s : ByteArray) (i : Nat) (hi : i < s.size) (hb : 128 ≤ (s.data.toList.getD i 0).toNat) :
    ((128 ≤ (Utf8.decode s i).1 ∧ (Utf8.decode s i).1 < 55296) ∨ (57344 ≤ (Utf8.decode s i).1 ∧ (Utf8.decode s i).1 ≤ 1114111)) ∧ 1 ≤ (Utf8.decode s i).2 ∧ i + (Utf8.decode s i).2 ≤ s.size ∧
      ∀ j, j < (Utf8.decode s i).2 → 128 ≤ (s.data.toList.getD (i + j) 0).toNat := by
  have hl := list_size s
  rw [Lib.decode_N]
  have k0 := (s.data.toList.getD i 0).toNat_lt
  have k1 := (s.data.toList.getD (i + 1) 0).toNat_lt
  have k2 := (s.data.toList.getD (i + 2) 0).toNat_lt
  have k3 := (s.data.toList.getD (i + 3) 0).toNat_lt
  rcases Lib.decodeN_shape (s.data.toList.length - i) (s.data.toList.getD i 0).toNat (s.data.toList.getD (i + 1) 0).toNat (s.data.toList.getD (i + 2) 0).toNat (s.data.toList.getD (i + 3) 0).toNat with ⟨c, e⟩ | ⟨c1, c2, c3, cv, e⟩ | ⟨c1, c2, c3, c4, cv, cs, e⟩ | ⟨c1, c2, c3, c4, c5, cv, cw, e⟩ | e
  · omega
  · rw [e]
    refine ⟨by dsimp only; omega, by dsimp only; omega, by dsimp only; omega, fun j hj => ?_⟩
    dsimp only at hj
    rcases (show j = 0 ∨ j = 1 by omega) with rfl | rfl
    · exact hb
    · omega
  · rw [e]
    refine ⟨by dsimp only; omega, by dsimp only; omega, by dsimp only; omega, fun j hj => ?_⟩
    dsimp only at hj
    rcases (show j = 0 ∨ j = 1 ∨ j = 2 by omega) with rfl | rfl | rfl
    · exact hb
    · omega
    · omega
  · rw [e]
    refine ⟨by dsimp only; omega, by dsimp only; omega, by dsimp only; omega, fun j hj => ?_⟩
    dsimp only at hj
    rcases (show j = 0 ∨ j = 1 ∨ j = 2 ∨ j = 3 by omega) with rfl | rfl | rfl | rfl
    · exact hb
    · omega
    · omega
    · omega
  · rw [e]
    refine ⟨by dsimp only; omega, by dsimp only; omega, by dsimp only; omega, fun j hj => ?_⟩
    dsimp only at hj
    obtain rfl : j = 0 := by omega
    exact hb
theorem rune_any (c : Int) (w : World) (hc : (128 ≤ c ∧ c < 55296) ∨ (57344 ≤ c ∧ c ≤ 1114111)) :
    Calls Tryz.prog 95 #[.string nameEnds, .int .i32 c] w fun e w' => e = .returned (.int .i64 (-1)) ∧ Below w.heap.size w w' := by
  by_cases h : c = 65533
  · subst h; exact rune_bad w
  · exact rune_high c w hc h
theorem not_end {x : UInt8} (h : 128 ≤ x.toNat) : [61, 93, 34, 32].contains x = false := by
  cases hc : [61, 93, 34, 32].contains x with
  | false => rfl
  | true =>
    have : x = 61 ∨ x = 93 ∨ x = 34 ∨ x = 32 := by simpa using hc
    rcases this with rfl | rfl | rfl | rfl <;> exact absurd h (by decide)
theorem getD_of {l : List UInt8} {i : Nat} {x : UInt8} (h : l[i]? = some x) : l.getD i 0 = x := by simp [List.getD, h]
set_option maxHeartbeats 4000000 in
set_option maxRecDepth 100000 in
theorem any_short (s : ByteArray) (w : World) (h8 : s.size ≤ 8) :
    Calls Tryz.prog 72 #[.string s, .string nameEnds] w fun e w' => e = .returned (.int .i64 (Lib.indexAny s.data.toList [61, 93, 34, 32])) ∧ Below w.heap.size w w' := by
  have h8z : decide ((8 : Int) < (s.size : Int)) = false := decide_eq_false (by omega)
  have HS := Lib.hid (should_near (s.size : Int) w)
  rw [h8z] at HS
  have hln := list_size s
  obtain ⟨R, hR⟩ : ∃ R, Lib.indexAny s.data.toList [61, 93, 34, 32] = R := ⟨_, rfl⟩
  rw [hR]
  have HR := Lib.hid hR
  have HLN := Lib.hid hln
  clear h8z hR hln
  go_enter Tryz.func72, Tryz.ntmps72
  go_wp2_with fail
  refine HS.out.mono ?_
  rintro e w' ⟨rfl, rfl⟩
  go_wp2
  go_loopg [9, 10] s.size (fun g _ _ wx => ∃ i : Nat, i ≤ s.size ∧ s.size ≤ i + g ∧ Below w'.heap.size w' wx ∧ wx.heap[w'.heap.size]? = some (.stringIter s i) ∧ Hid (Lib.NoAny s.data.toList [61, 93, 34, 32] i))
  case atStart => exact ⟨0, by omega, by omega, iter_below _ _ _, by simp [World.iter_heap], Lib.hid (fun j b hj _ => by omega)⟩
  case round =>
    obtain ⟨i, hik, hig, hBi, hwi, HN⟩ := hrel
    have HB := Lib.hid hBi
    have HWI := Lib.hid hwi
    by_cases hi : i < s.size
    · cases gk with
      | zero => omega
      | succ g =>
        obtain ⟨x, hx⟩ : ∃ x : UInt8, s[i]'hi = x := ⟨_, rfl⟩
        have hxl : s.data.toList[i]? = some x := by rw [← hx]; exact Lib.data_getElem? s i hi
        have HX := Lib.hid hxl
        have hsz := hBi.size
        by_cases hx128 : x.toNat < 128
        · have hnx := fun ty => Lib.run_next_ascii_at (P := Tryz.prog) wr w'.heap.size s i ty hwi hi (by rw [hx]; exact hx128)
          rw [hx] at hnx
          have HR1 := Lib.hid (fun W => rune_near ((x.toNat : Nat) : Int) W (by omega) (by omega))
          have hback : ((x.toNat : Int)).toNat.toUInt8 = x := by simp
          rw [hback] at HR1
          have hcon := Lib.contains_iff_indexByte [61, 93, 34, 32] x
          have HB1 := Lib.hid (Lib.below_iterAt hBi (Nat.le_refl _) s (i + 1))
          have HI1 := Lib.hid (Lib.iterAt_heap wr w'.heap.size s i (i + 1) hwi)
          clear hxl hx hback hwi hBi
          cases hin : [61, 93, 34, 32].contains x with
          | true =>
            have hr : R = (i : Int) := by rw [← HR.out]; exact Lib.indexAny_hit HN.out HX.out hin
            have HRR := Lib.hid hr
            rw [hin] at hcon
            have hge : (0 : Int) ≤ Lib.indexByte [61, 93, 34, 32] x := of_decide_eq_true hcon.symm
            generalize Lib.indexByte [61, 93, 34, 32] x = q at *
            clear hcon hin hr
            go_wp2_with fail
            refine (HR1.out _).mono ?_
            rintro e w2 ⟨rfl, rfl⟩
            go_wp2
            go_ret
            exact ⟨by rw [HRR.out]; rfl, HB1.out⟩
          | false =>
            have HN2 := Lib.hid (HN.out.succ HX.out hin)
            rw [hin] at hcon
            have hlt : ¬ (0 : Int) ≤ Lib.indexByte [61, 93, 34, 32] x := of_decide_eq_false hcon.symm
            generalize Lib.indexByte [61, 93, 34, 32] x = q at *
            clear hcon hin
            go_wp2_with fail
            refine (HR1.out _).mono ?_
            rintro e w2 ⟨rfl, rfl⟩
            go_wp2
            go_roundg g
            case measure => omega
            case rel => exact ⟨i + 1, by omega, by omega, HB1.out, HI1.out, HN2⟩
        · have hnx := fun ty => Lib.run_next_any_at (P := Tryz.prog) wr w'.heap.size s i ty hwi hi
          obtain ⟨hrune, hw1, hw2, hbs⟩ := high_rune s i hi (by rw [getD_of hxl]; omega)
          obtain ⟨cc, hcc⟩ : ∃ c, (Utf8.decode s i).1 = c := ⟨_, rfl⟩
          obtain ⟨ww, hww⟩ : ∃ c, (Utf8.decode s i).2 = c := ⟨_, rfl⟩
          rw [hcc] at hrune
          rw [hww] at hw1 hw2 hbs
          rw [hcc, hww] at hnx
          have HRA := Lib.hid (fun W => rune_any ((cc : Nat) : Int) W (by omega))
          have hN2 : Lib.NoAny s.data.toList [61, 93, 34, 32] (i + ww) := by
            intro j b hj hb
            rcases Nat.lt_or_ge j i with h | h
            · exact HN.out j b h hb
            · have := hbs (j - i) (by omega)
              rw [show i + (j - i) = j by omega, getD_of hb] at this
              exact not_end this
          have HN2 := Lib.hid hN2
          have hB1 := Lib.below_iterAt hBi (Nat.le_refl _) s (i + ww)
          have hI1 := Lib.iterAt_heap wr w'.heap.size s i (i + ww) hwi
          have HB1 := Lib.hid hB1
          have HI1 := Lib.hid hI1
          clear hxl hx hwi hBi hbs hcc hww hrune hN2 hB1 hI1
          go_wp2_with fail
          refine (HRA.out _).mono ?_
          rintro e w2 ⟨rfl, hb2⟩
          have HB2 := Lib.hid (HB1.out.trans (hb2.mono HB1.out.size))
          have HI2 := Lib.hid ((hb2.block w'.heap.size (Array.getElem?_eq_some_iff.1 HI1.out).1).trans HI1.out)
          clear hb2
          go_wp2
          go_roundg g
          case measure => omega
          case rel => exact ⟨i + ww, by omega, by omega, HB2.out, HI2.out, HN2⟩
    · have hend := fun ty => Lib.run_next_end_at (P := Tryz.prog) wr w'.heap.size s i ty hwi hi
      have hr : R = -1 := by
        rw [← HR.out]
        refine Lib.indexAny_none ?_
        rw [HLN.out, show s.size = i by omega]
        exact HN.out
      have HRR := Lib.hid hr
      clear hr hBi hwi
      go_wp2
      go_ret
      exact ⟨by rw [HRR.out]; rfl, HB.out⟩
/-- IndexAny of the four signs, at every text. -/
theorem any_all (r : List UInt8) (w : World) (hr : r.length < 4294967281) :
    Calls Tryz.prog 72 #[.string (bytes r), .string nameEnds] w fun e w' => e = .returned (.int .i64 (Lib.indexAny r [61, 93, 34, 32])) ∧ Below w.heap.size w w' := by
  by_cases h8 : 8 < r.length
  · have h := any_far (bytes r) w (by rw [bytes_size]; exact h8) (by rw [bytes_size]; exact hr)
    rw [bytes_list] at h
    exact h
  · have h := any_short (bytes r) w (by rw [bytes_size]; omega)
    rw [bytes_list] at h
    exact h
/-- element's second closure, at every text. -/
theorem nameE_any (r : List UInt8) (b : Nat) (w : World) (hr : r.length < 4294967281) (hb : b < w.heap.size) (hc : w.cell? ⟨b, 0, none⟩ = some (.string (bytes r))) (hf : w.frozen? ⟨b, 0, none⟩ = false) :
    Calls Tryz.prog 71 #[.pointer (some ⟨b, 0, none⟩)] w fun e w' => e = .returned (.string (bytes (r.take (nameAt r)))) ∧ ∃ W, Below w.heap.size w W ∧ w' = W.setCell ⟨b, 0, none⟩ (.string (bytes (r.drop (nameAt r)))) :=
  name_of r b w hb hc hf (any_all r w hr)
end Go.Proofs.YtmmghppjhmdikaaGreatDoor
