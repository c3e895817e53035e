/- What the document's own readers answer: whether a byte is at a place, and the number of so many figures from a place on. No conditions but on sizes. -/
import Derived.Test.YtameffdjjcpbkaaDoorRead
namespace Go.Proofs.YtameffdjjcpbkaaDoor
open Go.ChangeShapes Go.WideShapes Go.ChangeAt Go.RowKit

theorem figs_iff (l : List UInt8) (k : Nat) : figs l k = k ↔ k ≤ l.length ∧ ∀ c ∈ l.take k, isDig c = true := by
  constructor
  · intro h
    exact ⟨by have := (figs_le l k).2; omega, figs_all l k (by omega)⟩
  · rintro ⟨h1, h2⟩
    have e := figs_front (l.take k) (l.drop k) h2
    rw [List.take_append_drop, List.length_take, Nat.min_eq_left h1] at e
    exact e
def isAt (l : List UInt8) (p : Nat) (c : UInt8) : Bool := decide (l[p]? = some c)
def numAt (l : List UInt8) (p k : Nat) : Int := if figs (l.drop p) k = k then numOf ((l.drop p).take k) else -1
theorem get_at (s : ByteArray) (p : Nat) (h : p < s.size) : s.data.toList[p]? = some s[p] := by
  rw [List.getElem?_eq_getElem (by rw [Array.length_toList]; exact h)]
  rfl
theorem byte_eq (a c : UInt8) : (((a.toNat : Nat) : Int) == ((c.toNat : Nat) : Int)) = decide (a = c) := by
  rw [Bool.eq_iff_iff, beq_iff_eq, decide_eq_true_iff]
  constructor
  · intro h; exact UInt8.toNat_inj.1 (by omega)
  · rintro rfl; rfl
theorem ris_any (s : ByteArray) (p : Nat) (c : UInt8) (w : World) :
    Calls Tryd.prog 40 #[.string s, .int .i64 p, .int .u8 ((c.toNat : Nat) : Int)] w fun e w' => e = .returned (.bool (isAt s.data.toList p c)) ∧ w' = w := by
  by_cases h : p < s.size
  · have e : isAt s.data.toList p c = (((s[p].toNat : Nat) : Int) == ((c.toNat : Nat) : Int)) := by rw [byte_eq]; unfold isAt; rw [get_at s p h]; simp
    have HE := Lib.hid e
    clear e
    go_enter Tryd.func40, Tryd.ntmps40
    go_wp2
    go_ret
    exact ⟨by rw [HE.out]; rfl, rfl⟩
  · have e : isAt s.data.toList p c = false := by
      unfold isAt
      rw [List.getElem?_eq_none (by rw [Array.length_toList]; change s.size ≤ p; omega)]
      simp
    rw [e]
    clear e
    go_enter Tryd.func40, Tryd.ntmps40
    go_wp2
    go_ret
    exact ⟨rfl, rfl⟩
theorem drop_get (s : ByteArray) (p j : Nat) (h : p + j < s.size) : (s.data.toList.drop p).take (j + 1) = (s.data.toList.drop p).take j ++ [s[p + j]] := by
  have hl : j < (s.data.toList.drop p).length := by rw [List.length_drop, Array.length_toList]; change j < s.size - p; omega
  rw [List.take_succ_eq_append_getElem hl]
  simp only [List.getElem_drop]
  rfl
set_option maxHeartbeats 1000000 in
theorem rnum_any (s : ByteArray) (p k : Nat) (w : World) (hs : s.size ≤ 9223372036854775807) (hp : p ≤ 100) (hk : k ≤ 6) :
    Calls Tryd.prog 39 #[.string s, .int .i64 p, .int .i64 k] w fun e w' => e = .returned (.int .i64 (numAt s.data.toList p k)) ∧ w' = w := by
  go_enter Tryd.func39, Tryd.ntmps39
  go_wp2
  go_loop [7, 8] (fun v i => ∃ j : Nat, j ≤ k ∧ i = .int .i64 ((p : Int) + j) ∧ v = .int .i64 (numOf ((s.data.toList.drop p).take j)) ∧ figs (s.data.toList.drop p) j = j) (fun _ i => (p + k) - (intOf i).toNat)
  case atStart => exact ⟨0, by omega, by simp, rfl, by unfold figs; rfl⟩
  case round =>
    obtain ⟨j, j1, rfl, rfl, hj⟩ := hrel
    have HJ := Lib.hid hj
    clear hj
    by_cases hlt : j < k
    · by_cases hin : p + j < s.size
      · have hidx : ((p : Int) + (j : Int)).toNat = p + j := by omega
        have hb := numOf_bd ((s.data.toList.drop p).take j) ((figs_iff _ _).1 HJ.out).2
        have hl : ((s.data.toList.drop p).take j).length = j := by rw [List.length_take]; have := ((figs_iff _ _).1 HJ.out).1; omega
        rw [hl] at hb
        have hp10 : (10 : Int) ^ j ≤ 1000000 := by
          have : 10 ^ j ≤ 10 ^ 6 := Nat.pow_le_pow_right (by decide) (by omega)
          have e : (10 : Int) ^ j = ((10 ^ j : Nat) : Int) := by simp
          rw [e]; omega
        obtain ⟨b1, b2⟩ := hb
        have b3 : numOf ((s.data.toList.drop p).take j) ≤ 1000000 := by omega
        clear b2 hp10 hl
        by_cases hc : 48 ≤ ((s[p + j]).toNat : Int) ∧ ((s[p + j]).toNat : Int) ≤ 57
        · obtain ⟨c1, c2⟩ := hc
          have HN := Lib.hid (show figs (s.data.toList.drop p) (j + 1) = j + 1 by
            rw [figs_iff]
            refine ⟨by rw [List.length_drop, Array.length_toList]; change j + 1 ≤ s.size - p; omega, ?_⟩
            rw [drop_get s p j hin]
            intro c hcm
            rw [List.mem_append, List.mem_singleton] at hcm
            rcases hcm with hcm | rfl
            · exact ((figs_iff _ _).1 HJ.out).2 c hcm
            · exact decide_eq_true ⟨c1, c2⟩)
          have HV := Lib.hid (show numOf ((s.data.toList.drop p).take (j + 1)) = 10 * numOf ((s.data.toList.drop p).take j) + (((s[p + j]).toNat : Int) - 48) by rw [drop_get s p j hin, numOf_snoc])
          generalize numOf ((s.data.toList.drop p).take j) = V at b1 b3 HV ⊢
          go_wp2
          go_round
          case rel => exact ⟨j + 1, by omega, by go_num, by rw [HV.out], HN.out⟩
          case measure => simp [intOf]; omega
        · have HE := Lib.hid (show numAt s.data.toList p k = -1 by
            unfold numAt
            rw [if_neg]
            intro hf
            have hx := ((figs_iff _ _).1 hf).2 s[p + j] (by
              have : s[p + j] ∈ (s.data.toList.drop p).take (j + 1) := by rw [drop_get s p j hin]; simp
              exact List.mem_of_mem_take (i := j + 1) (by rw [List.take_take, Nat.min_eq_left (by omega)]; exact this))
            exact hc (of_decide_eq_true hx))
          generalize numOf ((s.data.toList.drop p).take j) = V at b1 b3 ⊢
          rcases (show ((s[p + j]).toNat : Int) < 48 ∨ (48 ≤ ((s[p + j]).toNat : Int) ∧ 57 < ((s[p + j]).toNat : Int)) by omega) with h | ⟨h, h'⟩
          all_goals
            clear hc
            go_wp2
            go_ret
            exact ⟨by rw [HE.out]; rfl, rfl⟩
      · have HE := Lib.hid (show numAt s.data.toList p k = -1 by
          unfold numAt
          rw [if_neg]
          intro hf
          have := ((figs_iff _ _).1 hf).1
          rw [List.length_drop, Array.length_toList] at this
          change k ≤ s.size - p at this
          omega)
        generalize numOf ((s.data.toList.drop p).take j) = V
        go_wp2
        go_ret
        exact ⟨by rw [HE.out]; rfl, rfl⟩
    · obtain rfl : j = k := by omega
      have HE := Lib.hid (show numAt s.data.toList p j = numOf ((s.data.toList.drop p).take j) by unfold numAt; rw [if_pos HJ.out])
      go_wp2
      go_ret
      exact ⟨by rw [HE.out]; rfl, rfl⟩
end Go.Proofs.YtameffdjjcpbkaaDoor
