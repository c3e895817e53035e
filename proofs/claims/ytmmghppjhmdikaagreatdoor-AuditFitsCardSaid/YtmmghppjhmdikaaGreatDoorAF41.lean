/- What the document's own Utf8 answers: is a text valid UTF-8? As the library's ValidString tells. -/
import Derived.Test.YtmmghppjhmdikaaGreatDoorAF40
import Derived.Test.YtmmghppjhmdikaaGreatDoorRows
import Derived.WalkKit
import Derived.ProofKit
import Derived.Lib.Hide
import Derived.Deep.QuietTactic
import Derived.BigQuiet
namespace Go.Proofs.YtmmghppjhmdikaaGreatDoor
open Go.ChangeShapes Go.WideShapes Go.ChangeAt Go.RowKit

theorem byte_at (s : ByteArray) (k : Nat) (h : k < s.size) : ∃ c, s.data.toList[k]? = some c ∧ ((s[k]'h).toNat : Int) = ((c.toNat : Nat) : Int) := by
  have hl : k < s.data.toList.length := by rw [list_size]; exact h
  refine ⟨s.data.toList[k], List.getElem?_eq_getElem _, ?_⟩
  simp only [Array.getElem_toList]
  rfl
theorem drop_cons {l : List UInt8} {k : Nat} {c : UInt8} (h : l[k]? = some c) : l.drop k = c :: l.drop (k + 1) := by
  obtain ⟨hk, hx⟩ := List.getElem?_eq_some_iff.1 h
  rw [List.drop_eq_getElem_cons hk, hx]

set_option maxHeartbeats 8000000 in
set_option maxRecDepth 100000 in
theorem refUtf8_any (s : ByteArray) (w : World) (hs : s.size ≤ 140737488355328) :
    Calls Tryz.prog 26 #[.string s] w fun e w' => e = .returned (.bool (Lib.validD s.data.toList)) ∧ w' = w := by
  have hln : s.data.toList.length = s.size := list_size s
  have HLN := Lib.hid hln
  clear hln
  go_enter Tryz.func26, Tryz.ntmps26
  go_wp2
  go_loop [3] (fun i => ∃ k : Nat, k ≤ s.size ∧ i = .int .i64 k ∧ Hid (Lib.validD s.data.toList = Lib.validD (s.data.toList.drop k))) (fun i => s.size - (intOf i).toNat)
  case atStart => exact ⟨0, by omega, rfl, Lib.hid rfl⟩
  case round =>
    obtain ⟨k, hk, rfl, HT⟩ := hrel
    by_cases hlt : k < s.size
    · obtain ⟨c, hc, hat⟩ := byte_at s k hlt
      have HD := Lib.hid (drop_cons hc)
      clear hc
      have hc256 := c.toNat_lt
      by_cases h128 : c.toNat < 128
      · have HV := Lib.hid (show Lib.validD s.data.toList = Lib.validD (s.data.toList.drop (k + 1)) by rw [HT.out, HD.out, Lib.validD_cons _ _ h128])
        go_wp2
        go_round
        case rel => exact ⟨k + 1, by omega, by go_num, HV⟩
        case measure => simp [intOf]; omega
      · by_cases hbad : c.toNat < 194 ∨ 245 ≤ c.toNat
        · have HV := Lib.hid (show Lib.validD s.data.toList = false by rw [HT.out, HD.out, valid_bad c _ (by omega)])
          rcases hbad with hb | hb
          · go_wp2
            go_ret
            exact ⟨by rw [HV.out] <;> rfl, rfl⟩
          · go_wp2
            go_ret
            exact ⟨by rw [HV.out] <;> rfl, rfl⟩
        · obtain ⟨n, low, v0, hlead⟩ : ∃ n low v0, U8Lead c.toNat n low v0 := by
            rcases (show (194 ≤ c.toNat ∧ c.toNat ≤ 223) ∨ (224 ≤ c.toNat ∧ c.toNat ≤ 239) ∨ (240 ≤ c.toNat ∧ c.toNat ≤ 244) by omega) with h | h | h
            · exact ⟨1, 128, c.toNat - 192, .inl ⟨h.1, h.2, rfl, rfl, by omega⟩⟩
            · exact ⟨2, 2048, c.toNat - 224, .inr (.inl ⟨h.1, h.2, rfl, rfl, by omega⟩)⟩
            · exact ⟨3, 65536, c.toNat - 240, .inr (.inr ⟨h.1, h.2, rfl, rfl, by omega⟩)⟩
          have HV := Lib.hid (show Lib.validD s.data.toList = u8rest n low (s.data.toList.drop (k + 1)) (u8tail n (s.data.toList.drop (k + 1)) v0) by rw [HT.out, HD.out, valid_lead c _ n low v0 hlead])
          clear hbad h128
          have hv0 : v0 < 32 := by unfold U8Lead at hlead; omega
          have hn3 : n = 1 ∨ n = 2 ∨ n = 3 := by unfold U8Lead at hlead; omega
          by_cases hend : k + n < s.size
          case neg =>
            have HF := Lib.hid (show Lib.validD s.data.toList = false by rw [HV.out, u8tail_short _ _ _ (by rw [List.length_drop, HLN.out]; omega)]; rfl)
            rcases hlead with ⟨a1, a2, rfl, rfl, a3⟩ | ⟨a1, a2, rfl, rfl, a3⟩ | ⟨a1, a2, rfl, rfl, a3⟩
            all_goals
              go_wp2
              go_ret
              exact ⟨by rw [HF.out] <;> rfl, rfl⟩
          case pos =>
            rcases hlead with ⟨a1, a2, rfl, rfl, a3⟩ | ⟨a1, a2, rfl, rfl, a3⟩ | ⟨a1, a2, rfl, rfl, a3⟩
            · go_wp2
              go_loop [7, 8] (fun v j => ∃ m V : Nat, 1 ≤ m ∧ m ≤ 1 + 1 ∧ j = .int .i64 m ∧ v = .int .i64 V ∧ ((m = 1 ∧ V < 32) ∨ (m = 2 ∧ V < 2048) ∨ (m = 3 ∧ V < 131072) ∨ (m = 4 ∧ V < 8388608)) ∧ Hid (u8tail 1 (s.data.toList.drop (k + 1)) v0 = u8tail (1 + 1 - m) (s.data.toList.drop (k + m)) V)) (fun _ j => 1 + 1 - (intOf j).toNat)
              case atStart => exact ⟨1, v0, by omega, by omega, rfl, by go_num, .inl ⟨rfl, hv0⟩, Lib.hid rfl⟩
              case round =>
                obtain ⟨m, V, hm1, hm2, rfl, rfl, hV, HU⟩ := hrel
                by_cases hm : m ≤ 1
                · obtain ⟨d, hd, hat2⟩ := byte_at s (k + m) (by omega)
                  have hd256 := d.toNat_lt
                  have hV4 : V < 131072 := by omega
                  have hget : (s.data.toList.drop (k + m))[0]? = some d := by rw [List.getElem?_drop]; exact hd
                  have hstep : 1 + 1 - m = (1 - m) + 1 := by omega
                  by_cases hok : 128 ≤ d.toNat ∧ d.toNat ≤ 191
                  · have HU2 := Lib.hid (show u8tail 1 (s.data.toList.drop (k + 1)) v0 = u8tail (1 + 1 - (m + 1)) (s.data.toList.drop (k + (m + 1))) (64 * V + d.toNat - 128) by
                      rw [HU.out, hstep, u8tail_ok hget hok, List.drop_drop, show 1 + 1 - (m + 1) = 1 - m by omega]; rfl)
                    clear hget hd
                    obtain ⟨o1, o2⟩ := hok
                    go_wp2
                    go_round
                    case rel => exact ⟨m + 1, 64 * V + d.toNat - 128, by omega, by omega, by go_num, by go_num, by omega, HU2⟩
                    case measure => simp [intOf]; omega
                  · have HF := Lib.hid (show Lib.validD s.data.toList = false by rw [HV.out, HU.out, hstep, u8tail_bad hget hok]; rfl)
                    clear hget hd
                    rcases (show d.toNat < 128 ∨ 191 < d.toNat by omega) with o1 | o1
                    · first | (exfalso; omega) | (go_wp2; go_ret; exact ⟨by rw [HF.out] <;> rfl, rfl⟩)
                    · first | (exfalso; omega) | (go_wp2; go_ret; exact ⟨by rw [HF.out] <;> rfl, rfl⟩)
                · obtain rfl : m = 1 + 1 := by omega
                  have hz : 1 + 1 - (1 + 1) = 0 := by omega
                  have HE := Lib.hid (show Lib.validD s.data.toList = (u8ok 128 V && Lib.validD (s.data.toList.drop (k + 1 + 1))) by
                    rw [HV.out, HU.out, hz, u8tail, u8rest, List.drop_drop])
                  by_cases q1 : V < 128
                  · have HF := Lib.hid (show Lib.validD s.data.toList = false by rw [HE.out]; simp [u8ok, q1])
                    first | (exfalso; omega) | (go_wp2; go_ret; exact ⟨by rw [HF.out] <;> rfl, rfl⟩)
                  · by_cases q2 : 1114111 < V
                    · have HF := Lib.hid (show Lib.validD s.data.toList = false by rw [HE.out]; simp [u8ok, q2])
                      first | (exfalso; omega) | (go_wp2; go_ret; exact ⟨by rw [HF.out] <;> rfl, rfl⟩)
                    · by_cases q3 : 55296 ≤ V ∧ V ≤ 57343
                      · have HF := Lib.hid (show Lib.validD s.data.toList = false by rw [HE.out]; simp [u8ok, q3.1, q3.2])
                        obtain ⟨q3, q4⟩ := q3
                        first | (exfalso; omega) | (go_wp2; go_ret; exact ⟨by rw [HF.out] <;> rfl, rfl⟩)
                      · have HF := Lib.hid (show Lib.validD s.data.toList = Lib.validD (s.data.toList.drop (k + 1 + 1)) by
                          have hu : u8ok 128 V = true := by simp [u8ok]; omega
                          rw [HE.out, hu, Bool.true_and])
                        rcases (show V < 55296 ∨ (55296 ≤ V ∧ 57343 < V) by omega) with q4 | ⟨q4, q5⟩
                        · first
                            | (exfalso; omega)
                            | (go_wp2
                               go_round
                               case rel => exact ⟨k + 1 + 1, by omega, by go_num, HF⟩
                               case measure => simp [intOf]; omega)
                        · first
                            | (exfalso; omega)
                            | (go_wp2
                               go_round
                               case rel => exact ⟨k + 1 + 1, by omega, by go_num, HF⟩
                               case measure => simp [intOf]; omega)
            · go_wp2
              go_loop [7, 8] (fun v j => ∃ m V : Nat, 1 ≤ m ∧ m ≤ 2 + 1 ∧ j = .int .i64 m ∧ v = .int .i64 V ∧ ((m = 1 ∧ V < 32) ∨ (m = 2 ∧ V < 2048) ∨ (m = 3 ∧ V < 131072) ∨ (m = 4 ∧ V < 8388608)) ∧ Hid (u8tail 2 (s.data.toList.drop (k + 1)) v0 = u8tail (2 + 1 - m) (s.data.toList.drop (k + m)) V)) (fun _ j => 2 + 1 - (intOf j).toNat)
              case atStart => exact ⟨1, v0, by omega, by omega, rfl, by go_num, .inl ⟨rfl, hv0⟩, Lib.hid rfl⟩
              case round =>
                obtain ⟨m, V, hm1, hm2, rfl, rfl, hV, HU⟩ := hrel
                by_cases hm : m ≤ 2
                · obtain ⟨d, hd, hat2⟩ := byte_at s (k + m) (by omega)
                  have hd256 := d.toNat_lt
                  have hV4 : V < 131072 := by omega
                  have hget : (s.data.toList.drop (k + m))[0]? = some d := by rw [List.getElem?_drop]; exact hd
                  have hstep : 2 + 1 - m = (2 - m) + 1 := by omega
                  by_cases hok : 128 ≤ d.toNat ∧ d.toNat ≤ 191
                  · have HU2 := Lib.hid (show u8tail 2 (s.data.toList.drop (k + 1)) v0 = u8tail (2 + 1 - (m + 1)) (s.data.toList.drop (k + (m + 1))) (64 * V + d.toNat - 128) by
                      rw [HU.out, hstep, u8tail_ok hget hok, List.drop_drop, show 2 + 1 - (m + 1) = 2 - m by omega]; rfl)
                    clear hget hd
                    obtain ⟨o1, o2⟩ := hok
                    go_wp2
                    go_round
                    case rel => exact ⟨m + 1, 64 * V + d.toNat - 128, by omega, by omega, by go_num, by go_num, by omega, HU2⟩
                    case measure => simp [intOf]; omega
                  · have HF := Lib.hid (show Lib.validD s.data.toList = false by rw [HV.out, HU.out, hstep, u8tail_bad hget hok]; rfl)
                    clear hget hd
                    rcases (show d.toNat < 128 ∨ 191 < d.toNat by omega) with o1 | o1
                    · first | (exfalso; omega) | (go_wp2; go_ret; exact ⟨by rw [HF.out] <;> rfl, rfl⟩)
                    · first | (exfalso; omega) | (go_wp2; go_ret; exact ⟨by rw [HF.out] <;> rfl, rfl⟩)
                · obtain rfl : m = 2 + 1 := by omega
                  have hz : 2 + 1 - (2 + 1) = 0 := by omega
                  have HE := Lib.hid (show Lib.validD s.data.toList = (u8ok 2048 V && Lib.validD (s.data.toList.drop (k + 1 + 2))) by
                    rw [HV.out, HU.out, hz, u8tail, u8rest, List.drop_drop])
                  by_cases q1 : V < 2048
                  · have HF := Lib.hid (show Lib.validD s.data.toList = false by rw [HE.out]; simp [u8ok, q1])
                    first | (exfalso; omega) | (go_wp2; go_ret; exact ⟨by rw [HF.out] <;> rfl, rfl⟩)
                  · by_cases q2 : 1114111 < V
                    · have HF := Lib.hid (show Lib.validD s.data.toList = false by rw [HE.out]; simp [u8ok, q2])
                      first | (exfalso; omega) | (go_wp2; go_ret; exact ⟨by rw [HF.out] <;> rfl, rfl⟩)
                    · by_cases q3 : 55296 ≤ V ∧ V ≤ 57343
                      · have HF := Lib.hid (show Lib.validD s.data.toList = false by rw [HE.out]; simp [u8ok, q3.1, q3.2])
                        obtain ⟨q3, q4⟩ := q3
                        first | (exfalso; omega) | (go_wp2; go_ret; exact ⟨by rw [HF.out] <;> rfl, rfl⟩)
                      · have HF := Lib.hid (show Lib.validD s.data.toList = Lib.validD (s.data.toList.drop (k + 1 + 2)) by
                          have hu : u8ok 2048 V = true := by simp [u8ok]; omega
                          rw [HE.out, hu, Bool.true_and])
                        rcases (show V < 55296 ∨ (55296 ≤ V ∧ 57343 < V) by omega) with q4 | ⟨q4, q5⟩
                        · first
                            | (exfalso; omega)
                            | (go_wp2
                               go_round
                               case rel => exact ⟨k + 1 + 2, by omega, by go_num, HF⟩
                               case measure => simp [intOf]; omega)
                        · first
                            | (exfalso; omega)
                            | (go_wp2
                               go_round
                               case rel => exact ⟨k + 1 + 2, by omega, by go_num, HF⟩
                               case measure => simp [intOf]; omega)
            · go_wp2
              go_loop [7, 8] (fun v j => ∃ m V : Nat, 1 ≤ m ∧ m ≤ 3 + 1 ∧ j = .int .i64 m ∧ v = .int .i64 V ∧ ((m = 1 ∧ V < 32) ∨ (m = 2 ∧ V < 2048) ∨ (m = 3 ∧ V < 131072) ∨ (m = 4 ∧ V < 8388608)) ∧ Hid (u8tail 3 (s.data.toList.drop (k + 1)) v0 = u8tail (3 + 1 - m) (s.data.toList.drop (k + m)) V)) (fun _ j => 3 + 1 - (intOf j).toNat)
              case atStart => exact ⟨1, v0, by omega, by omega, rfl, by go_num, .inl ⟨rfl, hv0⟩, Lib.hid rfl⟩
              case round =>
                obtain ⟨m, V, hm1, hm2, rfl, rfl, hV, HU⟩ := hrel
                by_cases hm : m ≤ 3
                · obtain ⟨d, hd, hat2⟩ := byte_at s (k + m) (by omega)
                  have hd256 := d.toNat_lt
                  have hV4 : V < 131072 := by omega
                  have hget : (s.data.toList.drop (k + m))[0]? = some d := by rw [List.getElem?_drop]; exact hd
                  have hstep : 3 + 1 - m = (3 - m) + 1 := by omega
                  by_cases hok : 128 ≤ d.toNat ∧ d.toNat ≤ 191
                  · have HU2 := Lib.hid (show u8tail 3 (s.data.toList.drop (k + 1)) v0 = u8tail (3 + 1 - (m + 1)) (s.data.toList.drop (k + (m + 1))) (64 * V + d.toNat - 128) by
                      rw [HU.out, hstep, u8tail_ok hget hok, List.drop_drop, show 3 + 1 - (m + 1) = 3 - m by omega]; rfl)
                    clear hget hd
                    obtain ⟨o1, o2⟩ := hok
                    go_wp2
                    go_round
                    case rel => exact ⟨m + 1, 64 * V + d.toNat - 128, by omega, by omega, by go_num, by go_num, by omega, HU2⟩
                    case measure => simp [intOf]; omega
                  · have HF := Lib.hid (show Lib.validD s.data.toList = false by rw [HV.out, HU.out, hstep, u8tail_bad hget hok]; rfl)
                    clear hget hd
                    rcases (show d.toNat < 128 ∨ 191 < d.toNat by omega) with o1 | o1
                    · first | (exfalso; omega) | (go_wp2; go_ret; exact ⟨by rw [HF.out] <;> rfl, rfl⟩)
                    · first | (exfalso; omega) | (go_wp2; go_ret; exact ⟨by rw [HF.out] <;> rfl, rfl⟩)
                · obtain rfl : m = 3 + 1 := by omega
                  have hz : 3 + 1 - (3 + 1) = 0 := by omega
                  have HE := Lib.hid (show Lib.validD s.data.toList = (u8ok 65536 V && Lib.validD (s.data.toList.drop (k + 1 + 3))) by
                    rw [HV.out, HU.out, hz, u8tail, u8rest, List.drop_drop])
                  by_cases q1 : V < 65536
                  · have HF := Lib.hid (show Lib.validD s.data.toList = false by rw [HE.out]; simp [u8ok, q1])
                    first | (exfalso; omega) | (go_wp2; go_ret; exact ⟨by rw [HF.out] <;> rfl, rfl⟩)
                  · by_cases q2 : 1114111 < V
                    · have HF := Lib.hid (show Lib.validD s.data.toList = false by rw [HE.out]; simp [u8ok, q2])
                      first | (exfalso; omega) | (go_wp2; go_ret; exact ⟨by rw [HF.out] <;> rfl, rfl⟩)
                    · by_cases q3 : 55296 ≤ V ∧ V ≤ 57343
                      · have HF := Lib.hid (show Lib.validD s.data.toList = false by rw [HE.out]; simp [u8ok, q3.1, q3.2])
                        obtain ⟨q3, q4⟩ := q3
                        first | (exfalso; omega) | (go_wp2; go_ret; exact ⟨by rw [HF.out] <;> rfl, rfl⟩)
                      · have HF := Lib.hid (show Lib.validD s.data.toList = Lib.validD (s.data.toList.drop (k + 1 + 3)) by
                          have hu : u8ok 65536 V = true := by simp [u8ok]; omega
                          rw [HE.out, hu, Bool.true_and])
                        rcases (show V < 55296 ∨ (55296 ≤ V ∧ 57343 < V) by omega) with q4 | ⟨q4, q5⟩
                        · first
                            | (exfalso; omega)
                            | (go_wp2
                               go_round
                               case rel => exact ⟨k + 1 + 3, by omega, by go_num, HF⟩
                               case measure => simp [intOf]; omega)
                        · first
                            | (exfalso; omega)
                            | (go_wp2
                               go_round
                               case rel => exact ⟨k + 1 + 3, by omega, by go_num, HF⟩
                               case measure => simp [intOf]; omega)
    · obtain rfl : k = s.size := by omega
      have HV := Lib.hid (show Lib.validD s.data.toList = true by rw [HT.out, List.drop_of_length_le (by rw [HLN.out]; exact Nat.le_refl _)]; rfl)
      clear hlt
      go_wp2
      go_ret
      exact ⟨by rw [HV.out] <;> rfl, rfl⟩
end Go.Proofs.YtmmghppjhmdikaaGreatDoor
