/- The document's example, as the statements begin with it: yes. No conditions. -/
import Derived.Test.YtpkoonokagchgaaNew
import Derived.Test.YtpkoonokagchgaaRefCrash
import Derived.Test.YtpkoonokagchgaaRead
namespace Go.Proofs.Ytpkoonokagchgaa
open Go.ChangeShapes Go.WideShapes Go.ChangeAt Go.RowKit Go.Shelf

def hiT : ByteArray := ⟨#[104, 105]⟩
def shD : Dk := more (newD 1 96) 0 hiT
theorem sh_write : writeE (newD 1 96) 0 hiT = 0 := by decide
theorem sh_ok : Ok shD := (newD_ok (by decide) (by decide) (by decide) (by decide)).more (by decide) (by decide) (by decide) (by decide)

theorem byte_at {a : ByteArray} {i : Nat} {x : UInt8} (h : a.data.toList[i]? = some x) (hi : i < a.size) : (a[i]'hi).toNat = x.toNat := by
  have h2 : a.data[i]'hi = x := by
    have : a.data.toList[i]? = some (a.data[i]'hi) := by simp
    rw [this] at h
    exact Option.some.inj h
  show (a.data[i]'hi).toNat = x.toNat
  rw [h2]
theorem sh_none : ∃ a0, crashD shD [] = [a0] ∧ a0.size = 96 ∧ a0.data.toList[0]? = some 0 := by
  refine ⟨zeros 96, rfl, zeros_size 96, rfl⟩
theorem sh_one : ∃ b0, crashD shD [1] = [b0] ∧ b0.size = 96 ∧ b0.data.toList[0]? = some 104 ∧ b0.data.toList[1]? = some 0 := by
  refine ⟨put (zeros 96) ⟨#[104]⟩, by rfl, ?_, by rfl, by rfl⟩
  rw [put_size (by rw [zeros_size]; decide), zeros_size]

set_option maxHeartbeats 4000000 in
set_option maxRecDepth 100000 in
theorem shown_any (w : World) : Calls Try.prog 10 #[] w fun e w' => e = .returned (.bool true) ∧ Below w.heap.size w w' := by
  have HN : Hid (∀ W, Calls Try.prog 11 #[.int .i64 1, .int .i64 96] W fun e w' => ∃ A', e = .returned (.tuple #[.agg #[.int .i64 96, .slice A' 1 1, .slice none 0 0, .bool false], .int .i64 0]) ∧ RowT w' A' 1 (newD 1 96).ks ∧ Below W.heap.size W w') := Lib.hid fun W => new_yes 1 96 W (by decide) (by decide) (by decide) (by decide)
  have HW : Hid (∀ W A', RowT W A' 1 (newD 1 96).ks → Calls Try.prog 18 #[.agg #[.int .i64 96, .slice A' 1 1, .slice none 0 0, .bool false], .int .i64 0, .string ⟨#[104, 105]⟩] W fun e w' => ∃ kA' kc' wA' wc', e = .returned (.tuple #[.agg #[.int .i64 96, .slice kA' 1 kc', .slice wA' 1 wc', .bool false], .int .i64 0]) ∧ At w' shD kA' kc' wA' wc' ∧ NewA W kA' ∧ NewA W wA' ∧ Below W.heap.size W w') := Lib.hid fun W A' hA =>
    write_yes (newD 1 96) 0 hiT A' 1 none 0 W (at_of hA (RowW.nil W)) (by decide) (by decide) sh_write
  have HC : Hid (∀ W kA kc wA wc KA KC (ks : List Int), At W shD kA kc wA wc → RowI W KA KC ks → KC ≤ 9223372036854775807 → Calls Try.prog 22 #[.agg #[.int .i64 96, .slice kA 1 kc, .slice wA 1 wc, .bool false], .slice KA ks.length KC] W fun e w' => ∃ A' c', e = .returned (.agg #[.int .i64 96, .slice A' 1 c', .slice none 0 0, .bool false]) ∧ RowT w' A' c' (crashD shD ks) ∧ Below W.heap.size W w') := Lib.hid fun W kA kc wA wc KA KC ks hA hK hc =>
    (crash_any shD sh_ok ks kA kc wA wc KA KC W hA (by decide) hK hc).mono fun e w' ⟨A', c', h1, h2, _, h3⟩ => ⟨A', c', h1, h2, h3⟩
  go_enter Try.func10, Try.ntmps10
  go_wp2_with fail
  refine (HN.out _).mono ?_
  rintro e w1 ⟨A1, rfl, hr1, hb1⟩
  go_wp2_with fail
  have HX1 := Lib.hid (Bx.new w1 25 #[.int .i64 96, .slice A1 1 1, .slice none 0 0, .bool false])
  have HB1 := Lib.hid (below_trans hb1 (alloc_below w1 (.cells #[.int .i64 96, .slice A1 1 1, .slice none 0 0, .bool false] 25)))
  have hs1 := hb1.size
  refine (HW.out _ _ (hr1.below (alloc_below w1 _))).mono ?_
  rintro e w2 ⟨kA, kc, wA, wc, rfl, hat, hn1, hn2, hb2⟩
  have HAT := Lib.hid (hat.four (r := w1.heap.size) (hn1.ne HX1.out.lt) (hn2.ne HX1.out.lt) (.int .i64 96) (.slice kA 1 kc) (.slice wA 1 wc) (.bool false))
  have x2 := HX1.out.below hb2
  have HX2 := Lib.hid (x2.put4 (.int .i64 96) (.slice kA 1 kc) (.slice wA 1 wc) (.bool false))
  have HB2 := Lib.hid (four_below (r := w1.heap.size) (below_trans HB1.out hb2) hs1 (.int .i64 96) (.slice kA 1 kc) (.slice wA 1 wc) (.bool false))
  obtain ⟨y0, y1, y2, y3⟩ := x2.four
  have y4 := x2.frozen
  clear hat hb2 hr1 hb1 HB1 HX1 hn1 hn2 x2
  go_upto_region 3 with fail
  obtain ⟨V, hV⟩ : ∃ V, (((w2.setCell ⟨w1.heap.size, 0, none⟩ (.int .i64 96)).setCell ⟨w1.heap.size, 1, none⟩ (.slice kA 1 kc)).setCell ⟨w1.heap.size, 2, none⟩ (.slice wA 1 wc)).setCell ⟨w1.heap.size, 3, none⟩ (.bool false) = V := ⟨_, rfl⟩
  rw [hV] at HAT HX2 HB2 ⊢
  clear y0 y1 y2 y3 y4 hV
  obtain ⟨y0, y1, y2, y3⟩ := HX2.out.four
  go_wp2_with fail
  refine (HC.out V kA kc wA wc none 0 [] HAT.out (RowI.nil V) (by decide)).mono ?_
  rintro e w3 ⟨A3, c3, rfl, hr3, hb3⟩
  have HR4 := Lib.hid (hr3.below (alloc_below w3 (.cells #[.int .i64 96, .slice A3 1 c3, .slice none 0 0, .bool false] 25)))
  have HX4 := Lib.hid (Bx.new w3 25 #[.int .i64 96, .slice A3 1 c3, .slice none 0 0, .bool false])
  have HX5 := Lib.hid ((HX2.out.below hb3).below (alloc_below w3 (.cells #[.int .i64 96, .slice A3 1 c3, .slice none 0 0, .bool false] 25)))
  have HAT4 := Lib.hid ((HAT.out.below hb3).below (alloc_below w3 (.cells #[.int .i64 96, .slice A3 1 c3, .slice none 0 0, .bool false] 25)))
  have HB4 := Lib.hid (below_trans (below_trans HB2.out hb3) (alloc_below w3 (.cells #[.int .i64 96, .slice A3 1 c3, .slice none 0 0, .bool false] 25)))
  clear hr3 hb3 y0 y1 y2 y3 HAT HX2 HB2
  go_upto_region 4 with fail
  obtain ⟨V4, hV4⟩ : ∃ V4, w3.alloc (.cells #[.int .i64 96, .slice A3 1 c3, .slice none 0 0, .bool false] 25) = V4 := ⟨_, rfl⟩
  rw [hV4] at HR4 HX4 HX5 HAT4 HB4 ⊢
  clear hV4
  obtain ⟨y0, y1, y2, y3⟩ := HX5.out.four
  have HK : Hid (RowI (V4.alloc (.cells #[.int .i64 1] 3)) (some ⟨V4.heap.size, 0, none⟩) 1 [1]) := Lib.hid ⟨fun _ => ⟨V4.heap.size, 0, rfl, by simp, fun j u hu => by
    rw [Nat.zero_add, cell_of_row _ _ j #[.int .i64 1] 3 (0, 0) (heap_alloc_new V4 _), ← hu]
    simp [icells]⟩, fun h => by simp at h, Nat.le_refl _⟩
  go_wp2_with fail
  refine (HC.out _ kA kc wA wc (some ⟨V4.heap.size, 0, none⟩) 1 [1] (HAT4.out.below (alloc_below V4 _)) HK.out (by decide)).mono ?_
  rintro e w5 ⟨A5, c5, rfl, hr5, hb5⟩
  have HR6 := Lib.hid (hr5.below (alloc_below w5 (.cells #[.int .i64 96, .slice A5 1 c5, .slice none 0 0, .bool false] 25)))
  have HX6 := Lib.hid (Bx.new w5 25 #[.int .i64 96, .slice A5 1 c5, .slice none 0 0, .bool false])
  have HX7 := Lib.hid (((HX4.out.below (alloc_below V4 (.cells #[.int .i64 1] 3))).below hb5).below (alloc_below w5 (.cells #[.int .i64 96, .slice A5 1 c5, .slice none 0 0, .bool false] 25)))
  have HR7 := Lib.hid (((HR4.out.below (alloc_below V4 (.cells #[.int .i64 1] 3))).below hb5).below (alloc_below w5 (.cells #[.int .i64 96, .slice A5 1 c5, .slice none 0 0, .bool false] 25)))
  have HB6 := Lib.hid (below_trans (below_trans (below_trans HB4.out (alloc_below V4 (.cells #[.int .i64 1] 3))) hb5) (alloc_below w5 (.cells #[.int .i64 96, .slice A5 1 c5, .slice none 0 0, .bool false] 25)))
  clear hr5 hb5 y0 y1 y2 y3 HAT4 HB4 HK HR4 HX4 HX5
  go_upto_region 5 with fail
  obtain ⟨V6, hV6⟩ : ∃ V6, w5.alloc (.cells #[.int .i64 96, .slice A5 1 c5, .slice none 0 0, .bool false] 25) = V6 := ⟨_, rfl⟩
  rw [hV6] at HR6 HX6 HX7 HR7 HB6 ⊢
  clear hV6
  obtain ⟨a0, ha0, ha1, ha2⟩ := sh_none
  obtain ⟨b0, hb0, hb1, hb2, hb3⟩ := sh_one
  rw [ha0] at HR7
  rw [hb0] at HR6
  clear ha0 hb0
  obtain ⟨p1, o1, rfl, -, k1⟩ := HR7.out.cell (j := 0) (by simp)
  obtain ⟨p2, o2, rfl, -, k2⟩ := HR6.out.cell (j := 0) (by simp)
  have e1 := k1 0 a0 rfl
  have e2 := k2 0 b0 rfl
  rw [Nat.add_zero] at e1 e2
  clear k1 k2 HR7 HR6
  have f1 := HX7.out.cell 1 (v := .slice (some ⟨p1, o1, none⟩) 1 c3) rfl
  have f2 := HX6.out.cell 1 (v := .slice (some ⟨p2, o2, none⟩) 1 c5) rfl
  have q0 : (a0[0]'(by omega)).toNat = 0 := byte_at ha2 (by omega)
  have q1 : (((b0[0]'(by omega)).toNat : Nat) : Int) = 104 := by rw [byte_at hb2 (by omega)]; rfl
  have q2 : (b0[1]'(by omega)).toNat = 0 := byte_at hb3 (by omega)
  clear ha2 hb2 hb3
  go_wp2_with fail
  all_goals
    go_ret
    exact ⟨by simp, HB6.out⟩
end Go.Proofs.Ytpkoonokagchgaa
