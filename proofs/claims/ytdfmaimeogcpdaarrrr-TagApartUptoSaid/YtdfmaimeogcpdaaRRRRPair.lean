/- How many bytes rows of texts have, and whether two rows are the same, by the document's own answers. All memory that was there stays. No conditions but that rows and texts are no longer than memory. -/
import Derived.Test.YtdfmaimeogcpdaaRRRRBase
namespace Go.Proofs.YtdfmaimeogcpdaaRRRR
open Go.ChangeShapes Go.WideShapes Go.ChangeAt Go.RowKit

/-- A slice of texts, as a list. -/
def TextsAt (w : World) (A : Option Addr) (n : Nat) (ss : List ByteArray) : Prop :=
  ss.length = n ∧ (n = 0 ∨ ∃ b off, A = some ⟨b, off, none⟩ ∧ b < w.heap.size ∧ ∀ i, i < n → w.cell? ⟨b, off + i, none⟩ = some (.string (ss.getD i ByteArray.empty)))
theorem TextsAt.below {w w' : World} {A : Option Addr} {n : Nat} {ss : List ByteArray} (h : TextsAt w A n ss) (hb : Below w.heap.size w w') : TextsAt w' A n ss := by
  refine ⟨h.1, ?_⟩
  rcases h.2 with h0 | ⟨b, off, hA, hlt, hc⟩
  · exact .inl h0
  · exact .inr ⟨b, off, hA, Nat.lt_of_lt_of_le hlt hb.size, fun i hi => (hb.cell (by exact hlt)).trans (hc i hi)⟩

/-- All that texts hold together. -/
def sizes (ss : List ByteArray) : Nat := (ss.map ByteArray.size).sum
theorem sizes_take (ss : List ByteArray) (k : Nat) (h : k < ss.length) : sizes (ss.take (k + 1)) = sizes (ss.take k) + (ss.getD k ByteArray.empty).size := by
  have e : ss.getD k ByteArray.empty = ss[k] := by simp [List.getD, List.getElem?_eq_getElem h]
  unfold sizes
  rw [e, List.take_succ_eq_append_getElem h, List.map_append, List.sum_append]
  simp

theorem wrap64_add (a b : Int) : wrap64 (wrap64 a + b) = wrap64 (a + b) := by simp only [wrap64]; omega
theorem wrap64_in (a : Int) (h0 : 0 ≤ a) (h1 : a < 9223372036854775808) : wrap64 a = a := by simp only [wrap64]; omega
theorem long_any (A : Option Addr) (n cap : Nat) (ss : List ByteArray) (w : World) (hr : TextsAt w A n ss) (hn : n ≤ 140737488355328) (hs : ∀ s ∈ ss, s.size ≤ 140737488355328) :
    Calls Try.prog 7 #[.slice A n cap] w fun e w' => e = .returned (.int .i64 (wrap64 ((n : Int) + sizes ss))) ∧ w' = w := by
  obtain ⟨hl, hcell⟩ := hr
  go_enter Try.func7, Try.ntmps7
  go_wp2
  go_loop [3, 4] (fun v i => ∃ k : Nat, k ≤ n ∧ i = .int .i64 k ∧ v = .int .i64 (wrap64 ((n : Int) + sizes (ss.take k)))) (fun _ i => n - (intOf i).toNat)
  case atStart => exact ⟨0, by omega, rfl, by rw [List.take_zero, show sizes [] = 0 from rfl, wrap64_in _ (by omega) (by omega)]; simp⟩
  case round =>
    obtain ⟨k, hk, rfl, rfl⟩ := hrel
    by_cases hlt : k < n
    · rcases hcell with h0 | ⟨b, off, rfl, hbl, hc⟩
      · omega
      have hck := hc k hlt
      have HS := Lib.hid (sizes_take ss k (by omega))
      have hsz : (ss.getD k ByteArray.empty).size ≤ 140737488355328 := hs _ (by simp [List.getD, List.getElem?_eq_getElem (show k < ss.length by omega)])
      generalize ss.getD k ByteArray.empty = t at hck hsz HS
      generalize hv : wrap64 ((n : Int) + sizes (ss.take k)) = v
      have HV := Lib.hid hv
      clear hc hs hv
      go_wp2
      go_round
      case rel =>
        refine ⟨k + 1, by omega, by go_num, ?_⟩
        have h1 := HS.out
        have h2 := HV.out
        rw [h1, ← h2, wrap64_add, Int.natCast_add, Int.add_assoc]
      case measure => simp [intOf]; omega
    · obtain rfl : k = n := by omega
      rw [List.take_of_length_le (by omega)]
      clear hcell
      go_wp2
      go_ret
      exact ⟨rfl, rfl⟩

theorem same_take {a b : List ByteArray} {k : Nat} (h : a.take k = b.take k) (ha : k < a.length) (hb : k < b.length) (e : a.getD k ByteArray.empty = b.getD k ByteArray.empty) : a.take (k + 1) = b.take (k + 1) := by
  have e1 : a.getD k ByteArray.empty = a[k] := by simp [List.getD, List.getElem?_eq_getElem ha]
  have e2 : b.getD k ByteArray.empty = b[k] := by simp [List.getD, List.getElem?_eq_getElem hb]
  rw [List.take_succ_eq_append_getElem ha, List.take_succ_eq_append_getElem hb, h, ← e1, ← e2, e]
theorem eq_text (s t : ByteArray) : (s.toList == t.toList) = decide (s = t) := by
  by_cases h : s = t
  · subst h; simp
  · have : ¬ s.toList = t.toList := fun k => h (by rw [ByteArray.toList_eq, ByteArray.toList_eq] at k; exact ByteArray.ext (Array.toList_inj.mp k))
    simp [h, this]
theorem drewN_drewN (w : World) (a b : Nat) : ∃ c, (w.drewN a).drewN b = w.drewN c := ⟨a + b, by simp [World.drewN, Nat.add_assoc]⟩

set_option maxHeartbeats 800000 in
theorem strings_any (A : Option Addr) (n cap : Nat) (ss : List ByteArray) (A' : Option Addr) (n' cap' : Nat) (ts : List ByteArray) (w : World) (hr : TextsAt w A n ss) (hr' : TextsAt w A' n' ts) (hn : n ≤ 140737488355328) (hn' : n' ≤ 140737488355328) :
    Calls Try.prog 10 #[.slice A n cap, .slice A' n' cap'] w fun e w' => e = .returned (.bool (decide (ss = ts))) ∧ ∃ m, w' = w.drewN m := by
  obtain ⟨hl, hcell⟩ := hr
  obtain ⟨hl', hcell'⟩ := hr'
  by_cases hnn : n = n'
  · subst hnn
    go_enter Try.func10, Try.ntmps10
    go_wp2
    go_loopw [5] (fun i wr => ∃ k : Nat, k ≤ n ∧ i = .int .i64 k ∧ ss.take k = ts.take k ∧ ∃ m, wr = w.drewN m) (fun i _ => n - (intOf i).toNat)
    case atStart => exact ⟨0, by omega, rfl, rfl, 0, rfl⟩
    case round =>
      obtain ⟨k, hk, rfl, hsame, m, hm⟩ := hrel
      have HM := Lib.hid hm
      by_cases hlt : k < n
      · rcases hcell with h0 | ⟨b, off, rfl, hbl, hc⟩
        · omega
        rcases hcell' with h0 | ⟨b', off', rfl, hbl', hc'⟩
        · omega
        have hck : wr.cell? ⟨b, off + k, none⟩ = some (.string (ss.getD k ByteArray.empty)) := by rw [hm]; exact hc k hlt
        have hck' : wr.cell? ⟨b', off' + k, none⟩ = some (.string (ts.getD k ByteArray.empty)) := by rw [hm]; exact hc' k hlt
        have HS := Lib.hid (fun e => same_take hsame (by omega) (by omega) e)
        have HN := Lib.hid (fun (e : ss = ts) => congrArg (fun l : List ByteArray => l.getD k ByteArray.empty) e)
        have hlt2 : (k : Int) < (n : Int) := by omega
        clear hc hc' hsame hm
        generalize ss.getD k ByteArray.empty = x at hck HS HN
        generalize ts.getD k ByteArray.empty = y at hck' HS HN
        go_wp2
        go_quiet (fail)
        by_cases hxy : x = y
        · have hq : (!x.toList == y.toList) = false := by rw [eq_text]; simp [hxy]
          have hs2 := Lib.hid (HS.out hxy)
          rw [hq]
          clear HS HN hck hck' hq
          go_wp2
          go_roundw
          case rel =>
            refine ⟨k + 1, by omega, by go_num, hs2.out, ?_⟩
            rw [HM.out]
            exact drewN_drewN w m nq
          case measure => simp [intOf]; omega
        · have hq : (!x.toList == y.toList) = true := by rw [eq_text]; simp [hxy]
          have hne := Lib.hid (fun e => hxy (HN.out e))
          rw [hq]
          clear HS HN hck hck' hq
          go_wp2
          go_ret
          refine ⟨?_, ?_⟩
          · rw [decide_eq_false hne.out]
            rfl
          · rw [HM.out]
            exact drewN_drewN w m nq
      · obtain rfl : k = n := by omega
        rw [List.take_of_length_le (by omega), List.take_of_length_le (by omega)] at hsame
        subst hsame
        clear hcell hcell' hm
        go_wp2
        go_ret
        exact ⟨by simp, m, HM.out⟩
  · have hne : ¬ ss = ts := fun e => hnn (by rw [← hl, ← hl', e])
    have hb : (((n : Nat) : Int) != ((n' : Nat) : Int)) = true := by rw [bne_iff_ne]; omega
    go_enter Try.func10, Try.ntmps10
    go_wp2
    go_ret
    exact ⟨by simp [hne], 0, rfl⟩
end Go.Proofs.YtdfmaimeogcpdaaRRRR
