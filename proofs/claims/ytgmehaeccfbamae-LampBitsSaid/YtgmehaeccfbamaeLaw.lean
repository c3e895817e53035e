/-
  LampBits returns true for every two hashes and number: a hash's bits are those of its bytes; two hashes have the same bits just if they are the same.
  Conditions: none (every input).
-/
import Derived.Test.YtgmehaeccfbamaeEq
import Derived.Lib.LaidTab
import Derived.Deep.RegionHeld
import Derived.OrdersHeld
namespace Go.Proofs.Ytgmehaeccfbamae.lampBits
open Go.ChangeShapes Go.WideShapes Go.ChangeAt Go.RowKit

/-- Are the first bits the same? -/
def sameL (h k : List UInt8) (m : Nat) : Bool := (List.range m).all fun j => bitN h j == bitN k j
theorem sameL_succ (h k : List UInt8) (m : Nat) : sameL h k (m + 1) = (sameL h k m && (bitN h m == bitN k m)) := by
  unfold sameL; rw [List.range_succ]; simp
theorem step_bit (c m : Nat) (hm : m < 8) : c / 2 ^ (8 - (m + 1)) = 2 * (c / 2 ^ (8 - m)) + c / 2 ^ (7 - m) % 2 := by
  rw [show 8 - (m + 1) = 7 - m by omega, show 8 - m = (7 - m) + 1 by omega, Nat.pow_succ, ← Nat.div_div_eq_div_mul]
  omega
theorem bit_of {h : List UInt8} {q m : Nat} {c : UInt8} (hc : h[q]? = some c) (hm : m < 8) : bitN h (8 * q + m) = c.toNat / 2 ^ (7 - m) % 2 := by
  unfold bitN
  rw [show (8 * q + m) / 8 = q by omega, show (8 * q + m) % 8 = m by omega, List.getD_eq_getElem?_getD, hc]
  rfl
theorem same_iff {h k : List UInt8} (hh : h.length = 32) (hk : k.length = 32) : sameL h k 256 = decide (h = k) := by
  rw [Bool.eq_iff_iff, decide_eq_true_iff]
  constructor
  · intro hs
    unfold sameL at hs
    rw [List.all_eq_true] at hs
    apply List.ext_getElem?
    intro q
    rcases Nat.lt_or_ge q 32 with hq | hq
    · obtain ⟨c, hc⟩ : ∃ c, h[q]? = some c := ⟨h[q]'(by omega), List.getElem?_eq_getElem _⟩
      obtain ⟨d, hd⟩ : ∃ d, k[q]? = some d := ⟨k[q]'(by omega), List.getElem?_eq_getElem _⟩
      have key : ∀ m, m ≤ 8 → c.toNat / 2 ^ (8 - m) = d.toNat / 2 ^ (8 - m) := by
        intro m
        induction m with
        | zero =>
          intro _
          have h1 := c.toNat_lt
          have h2 := d.toNat_lt
          rw [Nat.div_eq_of_lt (by simpa using h1), Nat.div_eq_of_lt (by simpa using h2)]
        | succ m ih =>
          intro hm
          have hb := hs (8 * q + m) (List.mem_range.2 (by omega))
          rw [beq_iff_eq, bit_of hc (by omega), bit_of hd (by omega)] at hb
          rw [step_bit _ _ (by omega), step_bit _ _ (by omega), ih (by omega), hb]
      have := key 8 (by omega)
      simp at this
      rw [hc, hd, UInt8.toNat_inj.1 this]
    · rw [List.getElem?_eq_none (by omega), List.getElem?_eq_none (by omega)]
  · rintro rfl
    unfold sameL
    simp
theorem exec_load {o : Oper} {a : Act} {w : World} {x : Operand} {g : Nat} {cs : Array Value} (ho : o.op = .load 23 x) (hx : a.eval x = .pointer (some ⟨g, 0, none⟩)) (hs : cs.size = 32) (hg : w.heap[g]? = some (.cells cs 23 (0, 0))) :
    (execOp a.eval o).run Try.prog w = .ok (.value (.agg cs)) w := by
  unfold execOp
  simp only [ho, hx, Instr.loadAt, Instr.sureAddr, Sem.run_bind, Sem.run_pure, Result.andThen_ok, run_loadVar_row w g 23 23 cs (0, 0) _ hg Try.underlying23 rfl (by rw [hs]; exact info23)]
theorem full_of {s : ByteArray} (h : 0 < s.size) : s.toList.isEmpty = false := by
  rw [ByteArray.toList_eq]
  obtain ⟨⟨l⟩⟩ := s
  cases l with
  | nil => exact absurd h (by decide)
  | cons a l => rfl
/-- What the loop's worlds hold: both hashes, where they lie. -/
abbrev Two (w : World) (h k : List UInt8) (W : World) : Prop := Below w.heap.size w W ∧ HAt w.heap.size h W ∧ HAt (w.heap.size + 1) k W
theorem two_below {w W W' : World} {h k : List UInt8} (ht : Two w h k W) (hb : Below W.heap.size W W') : Two w h k W' :=
  ⟨ht.1.trans (hb.mono ht.1.size), ht.2.1.below hb, ht.2.2.below hb⟩
set_option maxHeartbeats 8000000 in
set_option maxRecDepth 100000 in
theorem walk (h k : List UInt8) (hh : h.length = 32) (hk : k.length = 32) (I : Int) (w : World) :
    Calls Try.prog 3 #[.agg (cellsOf h), .agg (cellsOf k), .int .i64 I] w fun e w' => e = .returned (.bool true) ∧ Below w.heap.size w w' := by
  have hsz : (cellsOf h).size = 32 := by simp [cellsOf, hh]
  have ksz : (cellsOf k).size = 32 := by simp [cellsOf, hk]
  have h0 : Two w h k ((w.alloc (.cells (cellsOf h) 23)).alloc (.cells (cellsOf k) 23)) :=
    ⟨((Below.refl _ _).alloc (Nat.le_refl _) _).alloc (by simp) _,
      (Below.heap_alloc _ _ _ (by simp)).trans (heap_alloc_last w _),
      by
        have e := heap_alloc_last (w.alloc (.cells (cellsOf h) 23)) (.cells (cellsOf k) 23)
        rw [show (w.alloc (.cells (cellsOf h) 23)).heap.size = w.heap.size + 1 by simp] at e
        exact e⟩
  go_enter Try.func3, Try.ntmps3
  go_wp2_with fail
  refine (shown_any _).mono ?_
  rintro e w1 ⟨rfl, hb1⟩
  have h1 := two_below h0 hb1
  clear h0 hb1
  go_wp2
  go_loopw [8, 9] (fun s n wr => ∃ m : Nat, m ≤ 256 ∧ n = .int .i64 m ∧ s = .bool (sameL h k m) ∧ Two w h k wr) (fun _ n _ => 256 - (intOf n).toNat)
  case atStart => exact ⟨0, by omega, rfl, rfl, h1⟩
  case round =>
    obtain ⟨m, hm, rfl, rfl, hT⟩ := hrel
    by_cases hlt : m < 256
    · have hsucc := sameL_succ h k m
      have HB1 := Lib.hid (fun W => bit_in h hh m hlt W)
      have HB2 := Lib.hid (fun W => bit_in k hk m hlt W)
      obtain ⟨s, hs⟩ : ∃ s, sameL h k m = s := ⟨_, rfl⟩
      rw [hs] at hsucc ⊢
      cases s with
      | false =>
        go_wp2_with fail
        refine wp_region_held_drew (S := fun w' => Two w h k w') (by kernel_rfl) (show Two w h k wr.drew from ⟨hT.1.drew, hT.2⟩) (fun hHeld => ?_)
        refine wpAnyH_take (i := 0) (v := ?_) rfl (by kernel_rfl) (by kernel_rfl) (by kernel_rfl) (fun _ _ _ h => h) (Or.inl ⟨by rfl, ?_⟩) (by assumption) ?_
        rotate_left
        · intro w hSw; (try dsimp only at hSw); go_simp; first | done | with_reducible rfl
        try simp only [Act.put, List.getElem_toArray, List.getElem_cons_zero, List.setIfInBounds_toArray, List.set_cons_zero, List.set_cons_succ]
        refine wpAnyH_take (i := 1) (v := ?_) rfl (by kernel_rfl) (by kernel_rfl) (by kernel_rfl) (fun _ _ _ h => h) (Or.inl ⟨by rfl, ?_⟩) (by assumption) ?_
        rotate_left
        · intro w hSw; (try dsimp only at hSw); go_simp; first | done | with_reducible rfl
        try simp only [Act.put, List.getElem_toArray, List.getElem_cons_zero, List.getElem_cons_succ, List.setIfInBounds_toArray, List.set_cons_zero, List.set_cons_succ]
        refine wpAnyH_take (i := 2) (v := undef) rfl (by kernel_rfl) (by kernel_rfl) (by kernel_rfl) (fun _ _ _ h => h) (Or.inr ⟨by rfl, rfl⟩) (by assumption) ?_
        try simp only [Act.put, List.getElem_toArray, List.getElem_cons_zero, List.getElem_cons_succ, List.setIfInBounds_toArray, List.set_cons_zero, List.set_cons_succ]
        refine wpAnyH_take (i := 3) (v := undef) rfl (by kernel_rfl) (by kernel_rfl) (by kernel_rfl) (fun _ _ _ h => h) (Or.inr ⟨by rfl, rfl⟩) (by assumption) ?_
        try simp only [Act.put, List.getElem_toArray, List.getElem_cons_zero, List.getElem_cons_succ, List.setIfInBounds_toArray, List.set_cons_zero, List.set_cons_succ]
        refine wpAnyH_take (i := 4) (v := undef) rfl (by kernel_rfl) (by kernel_rfl) (by kernel_rfl) (fun _ _ _ h => h) (Or.inr ⟨by rfl, rfl⟩) (by assumption) ?_
        try simp only [Act.put, List.getElem_toArray, List.getElem_cons_zero, List.getElem_cons_succ, List.setIfInBounds_toArray, List.set_cons_zero, List.set_cons_succ]
        refine wpAnyH_take (i := 5) (v := undef) rfl (by kernel_rfl) (by kernel_rfl) (by kernel_rfl) (fun _ _ _ h => h) (Or.inr ⟨by rfl, rfl⟩) (by assumption) ?_
        try simp only [Act.put, List.getElem_toArray, List.getElem_cons_zero, List.getElem_cons_succ, List.setIfInBounds_toArray, List.set_cons_zero, List.set_cons_succ]
        refine wpAnyH_take (i := 6) (v := undef) rfl (by kernel_rfl) (by kernel_rfl) (by kernel_rfl) (fun _ _ _ h => h) (Or.inr ⟨by rfl, rfl⟩) (by assumption) ?_
        try simp only [Act.put, List.getElem_toArray, List.getElem_cons_zero, List.getElem_cons_succ, List.setIfInBounds_toArray, List.set_cons_zero, List.set_cons_succ]
        refine wpAnyH_take (i := 7) (v := undef) rfl (by kernel_rfl) (by kernel_rfl) (by kernel_rfl) (fun _ _ _ h => h) (Or.inr ⟨by rfl, rfl⟩) (by assumption) ?_
        try simp only [Act.put, List.getElem_toArray, List.getElem_cons_zero, List.getElem_cons_succ, List.setIfInBounds_toArray, List.set_cons_zero, List.set_cons_succ]
        refine wpAnyH_take (i := 8) (v := undef) rfl (by kernel_rfl) (by kernel_rfl) (by kernel_rfl) (fun _ _ _ h => h) (Or.inr ⟨by rfl, rfl⟩) (by assumption) ?_
        try simp only [Act.put, List.getElem_toArray, List.getElem_cons_zero, List.getElem_cons_succ, List.setIfInBounds_toArray, List.set_cons_zero, List.set_cons_succ]
        refine wpAnyH_take (i := 9) (v := ?_) rfl (by kernel_rfl) (by kernel_rfl) (by kernel_rfl) (fun _ _ _ h => h) (Or.inl ⟨by rfl, ?_⟩) (by assumption) ?_
        rotate_left
        · intro w hSw; (try dsimp only at hSw); go_simp; first | done | with_reducible rfl
        try simp only [Act.put, List.getElem_toArray, List.getElem_cons_zero, List.getElem_cons_succ, List.setIfInBounds_toArray, List.set_cons_zero, List.set_cons_succ]
        refine wpAnyH_take (i := 10) (v := ?_) rfl (by kernel_rfl) (by kernel_rfl) (by kernel_rfl) (fun _ _ _ h => h) (Or.inl ⟨by rfl, ?_⟩) (by assumption) ?_
        rotate_left
        · intro w hSw; (try dsimp only at hSw); go_simp; first | done | with_reducible rfl
        try simp only [Act.put, List.getElem_toArray, List.getElem_cons_zero, List.getElem_cons_succ, List.setIfInBounds_toArray, List.set_cons_zero, List.set_cons_succ]
        refine wpAnyH_done (by kernel_rfl) ?_ _
        clear hT
        go_wp2
        go_roundw
        case rel => exact ⟨m + 1, by omega, by go_num, by rw [hsucc]; rfl, hHeld⟩
        case measure => simp [intOf]; omega
      | true =>
        obtain ⟨b, hb⟩ : ∃ b, (bitN h m == bitN k m) = b := ⟨_, rfl⟩
        have hq : (((bitN h m : Nat) : Int) == ((bitN k m : Nat) : Int)) = b := by rw [← hb, Bool.eq_iff_iff, beq_iff_eq, beq_iff_eq]; omega
        rw [hb] at hsucc
        clear hb
        go_wp2_with fail
        refine wp_region_held_drew (S := fun w' => Two w h k w') (by kernel_rfl) (show Two w h k wr.drew from ⟨hT.1.drew, hT.2⟩) (fun hHeld => ?_)
        clear hT
        refine wpAnyH_take (i := 0) (v := ?_) rfl (by kernel_rfl) (by kernel_rfl) (by kernel_rfl) (fun _ _ _ h => h) (Or.inl ⟨by rfl, ?_⟩) (by assumption) ?_
        rotate_left
        · intro w hSw; (try dsimp only at hSw); go_simp; first | done | with_reducible rfl
        try simp only [Act.put, List.getElem_toArray, List.getElem_cons_zero, List.setIfInBounds_toArray, List.set_cons_zero, List.set_cons_succ]
        refine wpAnyH_take (i := 1) (v := ?_) rfl (by kernel_rfl) (by kernel_rfl) (by kernel_rfl) (fun _ _ _ h => h) (Or.inl ⟨by rfl, ?_⟩) (by assumption) ?_
        rotate_left
        · intro w hSw; (try dsimp only at hSw); go_simp; first | done | with_reducible rfl
        try simp only [Act.put, List.getElem_toArray, List.getElem_cons_zero, List.getElem_cons_succ, List.setIfInBounds_toArray, List.set_cons_zero, List.set_cons_succ]
        refine wpAnyH_take (i := 2) (v := .agg (cellsOf h)) rfl (by kernel_rfl) (by kernel_rfl) (by kernel_rfl) (fun _ _ _ h => h) (Or.inl ⟨by rfl, fun w hSw => exec_load rfl rfl hsz hSw.2.1⟩) (by assumption) ?_
        try simp only [Act.put, List.getElem_toArray, List.getElem_cons_zero, List.getElem_cons_succ, List.setIfInBounds_toArray, List.set_cons_zero, List.set_cons_succ]
        refine wpAnyH_take (i := 3) (v := ?_) rfl (by kernel_rfl) (by kernel_rfl) (by kernel_rfl) (fun _ _ _ h => h) (Or.inl ⟨by rfl, ?_⟩) (by assumption) ?_
        rotate_left
        · intro w hSw; (try dsimp only at hSw); go_simp; first | done | with_reducible rfl
        try simp only [Act.put, List.getElem_toArray, List.getElem_cons_zero, List.getElem_cons_succ, List.setIfInBounds_toArray, List.set_cons_zero, List.set_cons_succ]
        refine wpAnyH_take (i := 5) (v := .agg (cellsOf k)) rfl (by kernel_rfl) (by kernel_rfl) (by kernel_rfl) (fun _ _ _ h => h) (Or.inl ⟨by rfl, fun w hSw => exec_load rfl rfl ksz hSw.2.2⟩) (by assumption) ?_
        try simp only [Act.put, List.getElem_toArray, List.getElem_cons_zero, List.getElem_cons_succ, List.setIfInBounds_toArray, List.set_cons_zero, List.set_cons_succ]
        refine wpAnyH_take (i := 6) (v := ?_) rfl (by kernel_rfl) (by kernel_rfl) (by kernel_rfl) (fun _ _ _ h => h) (Or.inl ⟨by rfl, ?_⟩) (by assumption) ?_
        rotate_left
        · intro w hSw; (try dsimp only at hSw); go_simp; first | done | with_reducible rfl
        try simp only [Act.put, List.getElem_toArray, List.getElem_cons_zero, List.getElem_cons_succ, List.setIfInBounds_toArray, List.set_cons_zero, List.set_cons_succ]
        refine wpAnyH_ready (rs := [4]) (by kernel_rfl) (by simp) ?_
        refine AllReadyH.cons rfl (fun K hK => ?_) AllReadyH.nil
        go_simp
        (go_at_call 5; refine (HB1.out _).mono ?_; rintro e w' ⟨rfl, hz⟩)
        go_wp2_with fail
        refine hK.out _ _ (two_below (by assumption) hz) (fun hHeld2 => ?_)
        clear hK K hz
        refine wpAnyH_ready (rs := [7]) (by kernel_rfl) (by simp) ?_
        refine AllReadyH.cons rfl (fun K hK => ?_) AllReadyH.nil
        go_simp
        (go_at_call 5; refine (HB2.out _).mono ?_; rintro e w' ⟨rfl, hz⟩)
        go_wp2_with fail
        refine hK.out _ _ (two_below (by assumption) hz) (fun hHeld2 => ?_)
        clear hK K hz
        refine wpAnyH_take (i := 8) (v := ?_) rfl (by kernel_rfl) (by kernel_rfl) (by kernel_rfl) (fun _ _ _ h => h) (Or.inl ⟨by rfl, ?_⟩) (by assumption) ?_
        rotate_left
        · intro w hSw; (try dsimp only at hSw); go_simp; first | done | with_reducible rfl
        try simp only [Act.put, List.getElem_toArray, List.getElem_cons_zero, List.getElem_cons_succ, List.setIfInBounds_toArray, List.set_cons_zero, List.set_cons_succ]
        refine wpAnyH_take (i := 9) (v := ?_) rfl (by kernel_rfl) (by kernel_rfl) (by kernel_rfl) (fun _ _ _ h => h) (Or.inl ⟨by rfl, ?_⟩) (by assumption) ?_
        rotate_left
        · intro w hSw; (try dsimp only at hSw); go_simp; first | done | with_reducible rfl
        try simp only [Act.put, List.getElem_toArray, List.getElem_cons_zero, List.getElem_cons_succ, List.setIfInBounds_toArray, List.set_cons_zero, List.set_cons_succ]
        refine wpAnyH_take (i := 10) (v := ?_) rfl (by kernel_rfl) (by kernel_rfl) (by kernel_rfl) (fun _ _ _ h => h) (Or.inl ⟨by rfl, ?_⟩) (by assumption) ?_
        rotate_left
        · intro w hSw; (try dsimp only at hSw); go_simp; first | done | with_reducible rfl
        try simp only [Act.put, List.getElem_toArray, List.getElem_cons_zero, List.getElem_cons_succ, List.setIfInBounds_toArray, List.set_cons_zero, List.set_cons_succ]
        refine wpAnyH_done (by kernel_rfl) ?_ _
        go_wp2
        go_roundw
        case rel => exact ⟨m + 1, by omega, by go_num, by rw [hsucc]; rfl, by assumption⟩
        case measure => simp [intOf]; omega
    · obtain rfl : m = 256 := by omega
      rw [same_iff hh hk]
      obtain ⟨d, hd⟩ : ∃ d, decide (h = k) = d := ⟨_, rfl⟩
      rw [hd]
      obtain ⟨hB, hH, hK⟩ := hT
      have HH := Lib.hid hH
      have HK := Lib.hid hK
      clear hH hK
      have HX := Lib.hid (fun W => text_any h hh W)
      clear hlt hm
      have heq : (Op.equalIn 10000 23 (.agg (cellsOf h)) (.agg (cellsOf k))).run Try.prog wr = .ok (decide (h = k)) wr := eq_arr 9998 h k hh hk wr
      rw [hd] at heq
      have hdd : (d != d) = false := bne_self_eq_false d
      go_wp2_with (first | (refine wpList_load_want rfl _ rfl w.heap.size rfl (cellsOf h) hsz HH.out ?_) | (refine wpList_load_want rfl _ rfl (w.heap.size + 1) rfl (cellsOf k) ksz HK.out ?_))
      refine (HX.out _).mono ?_
      rintro e w2 ⟨⟨s, rfl, hs⟩, hb2⟩
      have hfull : s.toList.isEmpty = false := full_of (by omega)
      have HH2 := Lib.hid (HH.out.below hb2)
      have HB2 := Lib.hid (hB.trans (hb2.mono hB.size))
      clear hb2 heq hdd hd hB HK
      by_cases hi0 : I < 0
      · have HO := Lib.hid (fun W => bit_out h I (.inl hi0) W)
        go_wp2_with (refine wpList_load_want rfl _ rfl w.heap.size rfl (cellsOf h) hsz HH2.out ?_)
        refine (HO.out _).mono ?_
        rintro e w3 ⟨rfl, hb3⟩
        have HB3 := Lib.hid (HB2.out.trans (hb3.mono HB2.out.size))
        clear hb3
        go_wp2
        go_ret
        exact ⟨rfl, HB3.out⟩
      · by_cases hi1 : 31 < I
        · by_cases hi2 : 255 < I
          · have HO := Lib.hid (fun W => bit_out h I (.inr (by omega)) W)
            go_wp2_with (refine wpList_load_want rfl _ rfl w.heap.size rfl (cellsOf h) hsz HH2.out ?_)
            refine (HO.out _).mono ?_
            rintro e w3 ⟨rfl, hb3⟩
            have HB3 := Lib.hid (HB2.out.trans (hb3.mono HB2.out.size))
            clear hb3
            go_wp2
            go_ret
            exact ⟨rfl, HB3.out⟩
          · go_wp2
            go_ret
            exact ⟨rfl, HB2.out⟩
        · obtain ⟨q, rfl⟩ : ∃ q : Nat, I = (q : Int) := ⟨I.toNat, by omega⟩
          have hq : q < 32 := by omega
          obtain ⟨c, hc⟩ : ∃ c, h[q]? = some c := ⟨h[q]'(by omega), List.getElem?_eq_getElem _⟩
          have hc256 := c.toNat_lt
          have hB2 := HB2.out
          have hH2 := HH2.out
          clear HB2 HH2 HH HX
          go_wp2
          go_loopw [10, 11] (fun v n wx => ∃ m V : Nat, m ≤ 8 ∧ n = .int .i64 m ∧ v = .int .i64 V ∧ V = c.toNat / 2 ^ (8 - m) ∧ Below w.heap.size w wx ∧ HAt w.heap.size h wx) (fun _ n _ => 8 - (intOf n).toNat)
          case atStart => exact ⟨0, 0, by omega, rfl, rfl, (Nat.div_eq_of_lt (by simpa using hc256)).symm, hB2, hH2⟩
          case round =>
            obtain ⟨m, V, hm, rfl, rfl, hV, hB, hH⟩ := hrel
            have hV255 : V ≤ 255 := by rw [hV]; exact Nat.le_trans (Nat.div_le_self _ _) (by omega)
            by_cases hlt : m < 8
            · have hst := step_bit c.toNat m hlt
              rw [← bit_of hc hlt, ← hV] at hst
              have HBI : Hid (∀ W, Calls Try.prog 5 #[.agg (cellsOf h), .int .i64 (8 * (q : Int) + (m : Int))] W fun e w' => e = .returned (.int .i64 ((bitN h (8 * q + m) : Nat) : Int)) ∧ Below W.heap.size W w') := Lib.hid fun W => by
                have e := bit_in h hh (8 * q + m) (by omega) W
                rw [show ((8 * q + m : Nat) : Int) = 8 * (q : Int) + (m : Int) by omega] at e
                exact e
              obtain ⟨B, hBN⟩ : ∃ B, bitN h (8 * q + m) = B := ⟨_, rfl⟩
              rw [hBN] at hst HBI
              have hB1 : B ≤ 1 := by rw [← hBN]; unfold bitN; omega
              have HHH := Lib.hid hH
              clear hBN hV
              go_wp2_with (refine wpList_load_want rfl _ rfl w.heap.size rfl (cellsOf h) hsz HHH.out ?_)
              refine (HBI.out _).mono ?_
              rintro e w3 ⟨rfl, hb3⟩
              have hH3 := HHH.out.below hb3
              have hB3 := hB.trans (hb3.mono hB.size)
              clear hb3
              go_wp2
              go_roundw
              case rel => exact ⟨m + 1, 2 * V + B, by omega, by go_num, by go_num, hst.symm, hB3, hH3⟩
              case measure => simp [intOf]; omega
            · obtain rfl : m = 8 := by omega
              have hVc : V = c.toNat := by rw [hV]; simp
              subst hVc
              have hcell := hH.cell hc
              clear hV
              go_wp2
              go_ret
              exact ⟨rfl, hB⟩
end Go.Proofs.Ytgmehaeccfbamae.lampBits
