/- Where slices.IndexFunc finds the first element, or parameter, of which something holds; whether slices.ContainsFunc finds one. -/
import Derived.Test.YtnaijahhogndjaaGreatDoorEv
namespace Go.Proofs.YtnaijahhogndjaaGreatDoor
open Go.ChangeShapes Go.WideShapes Go.ChangeAt Go.RowKit

def longB (e : Elm) : Bool := decide (64 < e.2.length)
theorem bcell {W w1 : World} (hb : Below W.heap.size W w1) : (∀ b o, b < W.heap.size → w1.cell? ⟨b, o, none⟩ = W.cell? ⟨b, o, none⟩) ∧ (∀ b o, b < W.heap.size → w1.frozen? ⟨b, o, none⟩ = W.frozen? ⟨b, o, none⟩) :=
  ⟨fun b o h => hb.cell (p := ⟨b, o, none⟩) h, fun b o h => hb.frozen (p := ⟨b, o, none⟩) h⟩
theorem long_any (id : ByteArray) (lv : Value) (ps : List Prm) (w : World) (h : PrmsAt w lv ps) (hs : ps.length ≤ 17592186044416) :
    Calls Tryz.prog 46 #[.agg #[.string id, lv]] w fun e w' => e = .returned (.bool (longB (id, ps))) ∧ Below w.heap.size w w' := by
  obtain ⟨a, c, rfl, _⟩ := h
  unfold longB
  show Calls _ _ _ _ fun e w' => e = .returned (.bool (decide (64 < ps.length))) ∧ _
  generalize ps.length = n at hs ⊢
  have hb : Below w.heap.size w (w.alloc (.cells #[.string id, .slice a n c] 52)) := (Below.refl _ _).alloc (Nat.le_refl _) _
  by_cases hn : 64 < n
  · have hn' : (64 : Int) < (n : Int) := by omega
    rw [decide_eq_true hn]
    clear hn
    go_enter Tryz.func46, Tryz.ntmps46
    go_wp2
    go_ret
    exact ⟨rfl, hb⟩
  · have hn' : ¬ (64 : Int) < (n : Int) := by omega
    rw [decide_eq_false hn]
    clear hn
    go_enter Tryz.func46, Tryz.ntmps46
    go_wp2
    go_ret
    exact ⟨rfl, hb⟩
set_option maxHeartbeats 1000000 in
theorem idx_long (es : List Elm) (v : Value) (w : World) (h : ElmsAt w v es) (hs : es.length ≤ 17592186044416) (hl : ∀ e ∈ es, e.2.length ≤ 17592186044416) :
    Calls Tryz.prog 36 #[v, .func (.func 46) #[] #[]] w fun e w' => e = .returned (.int .i64 (fstI (longB) es)) ∧ Below w.heap.size w w' := by
  obtain ⟨a, c, rfl, hmem⟩ := h
  have HM := Lib.hid hmem
  clear hmem
  obtain ⟨n, hn⟩ : ∃ n, es.length = n := ⟨_, rfl⟩
  have HN := Lib.hid hn
  rw [hn] at hs ⊢
  clear hn
  go_enter Tryz.func36, Tryz.ntmps36
  go_wp2
  go_loopw [8] (fun i wr => ∃ k : Nat, k ≤ n ∧ i = .int .i64 k ∧ (∀ y ∈ es.take k, (longB) y = false) ∧ Below w.heap.size w wr) (fun i _ => n - (intOf i).toNat)
  case atStart => exact ⟨0, by omega, rfl, by simp, Below.refl _ _⟩
  case round =>
    obtain ⟨k, hk, rfl, hall, hB⟩ := hrel
    have HA := Lib.hid hall
    clear hall
    by_cases hlt : k < n
    · obtain ⟨x, hx⟩ : ∃ x, es[k]? = some x := ⟨es[k]'(by rw [HN.out]; exact hlt), List.getElem?_eq_getElem _⟩
      obtain ⟨b, o, ha, hb, hc⟩ := HM.out (by rw [HN.out]; omega)
      subst ha
      have hbw : b < wr.heap.size := Nat.lt_of_lt_of_le hb hB.size
      obtain ⟨lv, c1, c2, hp⟩ := hc k x hx
      have d1 : wr.cell? ⟨b, o + 2 * k, none⟩ = some (.string x.1) := (hB.cell (p := ⟨b, _, none⟩) hb).trans c1
      have d2 : wr.cell? ⟨b, o + 2 * k + 1, none⟩ = some lv := (hB.cell (p := ⟨b, _, none⟩) hb).trans c2
      have hp' := hp.below hB
      obtain ⟨x1, x2⟩ := x
      have HC := Lib.hid (long_any x1 lv x2 wr hp' (hl _ (List.mem_of_getElem? hx)))
      have HX := Lib.hid hx
      clear hc c1 c2 hp hp' hx
      have e1 : o + k * 2 = o + 2 * k := by omega
      simp only at d1 d2
      by_cases hpx : (longB) (x1, x2) = true
      · have HR := Lib.hid (fstI_at HX.out hpx HA.out)
        rw [hpx] at HC
        clear hpx
        go_wp2_with fail
        refine HC.out.mono ?_
        rintro e w' ⟨rfl, hb2⟩
        have B2 := hB.trans (hb2.mono hB.size)
        go_wp2
        go_ret
        exact ⟨by rw [HR.out]; rfl, B2⟩
      · have hpf : (longB) (x1, x2) = false := by simpa using hpx
        have HA2 := Lib.hid (show ∀ y ∈ es.take (k + 1), (longB) y = false by
          intro y hy
          rw [List.take_add_one, HX.out, List.mem_append] at hy
          rcases hy with hy | hy
          · exact HA.out y hy
          · simp at hy
            rw [hy]; exact hpf)
        rw [hpf] at HC
        clear hpx hpf
        go_wp2_with fail
        refine HC.out.mono ?_
        rintro e w' ⟨rfl, hb2⟩
        have B2 := hB.trans (hb2.mono hB.size)
        go_wp2
        go_roundw
        case rel => exact ⟨k + 1, by omega, by go_num, HA2.out, B2⟩
        case measure => simp [intOf]; omega
    · obtain rfl : k = n := by omega
      have HR := Lib.hid (show fstI (longB) es = -1 from fstI_none (fun y hy => HA.out y (by rw [← HN.out, List.take_length]; exact hy)))
      go_wp2
      go_ret
      exact ⟨by rw [HR.out]; rfl, hB⟩

/-! ### parameters that may not be -/
def wrongB (p : Prm) : Bool := !(nameB p.1.data.toList) || !(Lib.validD p.2.data.toList)
theorem wrong_any (x1 x2 : ByteArray) (w : World) (hS : Std w) (h1 : x1.size ≤ 9223372036854775807) (h2 : x2.size ≤ 9223372036854775807) :
    Calls Tryz.prog 75 #[.agg #[.string x1, .string x2]] w fun e w' => e = .returned (.bool (wrongB (x1, x2))) ∧ Below w.heap.size w w' := by
  have hb : Below w.heap.size w (w.alloc (.cells #[.string x1, .string x2] 54)) := (Below.refl _ _).alloc (Nat.le_refl _) _
  have hS1 := hS.below hb
  have HN := Lib.hid (name_any x1 (w.alloc (.cells #[.string x1, .string x2] 54)) h1)
  have HV := Lib.hid (fun W (hW : Std W) => valid_any x2 W h2 hW)
  unfold wrongB
  show Calls _ _ _ _ fun e w' => e = .returned (.bool (!(nameB x1.data.toList) || !(Lib.validD x2.data.toList))) ∧ _
  generalize nameB x1.data.toList = b1 at HN ⊢
  generalize Lib.validD x2.data.toList = b2 at HV ⊢
  cases b1 with
  | false =>
    go_enter Tryz.func75, Tryz.ntmps75
    go_wp2_with fail
    refine HN.out.mono ?_
    rintro e w' ⟨rfl, hb2⟩
    have B2 := hb.trans (hb2.mono (by simp))
    go_wp2
    go_ret
    exact ⟨rfl, B2⟩
  | true =>
    go_enter Tryz.func75, Tryz.ntmps75
    go_wp2_with fail
    refine HN.out.mono ?_
    rintro e w2 ⟨rfl, hb2⟩
    have B2 := hb.trans (hb2.mono (by simp))
    have hS2 := hS1.below hb2
    obtain ⟨hc2, hf2⟩ := bcell hb2
    have hz : w.heap.size < w2.heap.size := by have := hb2.size; simp at this; omega
    clear hb2
    go_wp2_with fail
    refine (HV.out _ hS2).mono ?_
    rintro e w3 ⟨rfl, hb3⟩
    have B3 := B2.trans (hb3.mono B2.size)
    go_wp2
    go_ret
    exact ⟨by simp, B3⟩

/-! ### elements of an Id, parameters of a name -/
def isIdB (id : ByteArray) (e : Elm) : Bool := decide (e.1 = id)
def isNmB (id : ByteArray) (p : Prm) : Bool := decide (p.1 = id)
theorem isId_any (x1 : ByteArray) (ps : List Prm) (lv : Value) (w : World) (id : ByteArray) (bi : Nat) (hlt : bi < w.heap.size) (hi : w.cell? ⟨bi, 0, none⟩ = some (.string id)) :
    Calls Tryz.prog 37 #[.agg #[.string x1, lv], .pointer (some ⟨bi, 0, none⟩)] w fun e w' => e = .returned (.bool (isIdB id (x1, ps))) ∧ Below w.heap.size w w' := by
  have hb : Below w.heap.size w (w.alloc (.cells #[.string x1, lv] 52)) := (Below.refl _ _).alloc (Nat.le_refl _) _
  have hi' : ∀ o, (w.alloc o).cell? ⟨bi, 0, none⟩ = some (.string id) := fun o => (((Below.refl w.heap.size w).alloc (Nat.le_refl _) o).cell (p := ⟨bi, 0, none⟩) hlt).trans hi
  have he := eq_text x1 id
  have hne : bi ≠ w.heap.size := by omega
  unfold isIdB
  go_enter Tryz.func37, Tryz.ntmps37
  go_wp2
  go_ret
  exact ⟨rfl, hb⟩
theorem isName_any (x1 x2 : ByteArray) (w : World) (id : ByteArray) (bi : Nat) (hlt : bi < w.heap.size) (hi : w.cell? ⟨bi, 0, none⟩ = some (.string id)) :
    Calls Tryz.prog 39 #[.agg #[.string x1, .string x2], .pointer (some ⟨bi, 0, none⟩)] w fun e w' => e = .returned (.bool (isNmB id (x1, x2))) ∧ Below w.heap.size w w' := by
  have hb : Below w.heap.size w (w.alloc (.cells #[.string x1, .string x2] 54)) := (Below.refl _ _).alloc (Nat.le_refl _) _
  have hi' : ∀ o, (w.alloc o).cell? ⟨bi, 0, none⟩ = some (.string id) := fun o => (((Below.refl w.heap.size w).alloc (Nat.le_refl _) o).cell (p := ⟨bi, 0, none⟩) hlt).trans hi
  have he := eq_text x1 id
  have hne : bi ≠ w.heap.size := by omega
  unfold isNmB
  go_enter Tryz.func39, Tryz.ntmps39
  go_wp2
  go_ret
  exact ⟨rfl, hb⟩
set_option maxHeartbeats 1000000 in
theorem idx_wrong (es : List Prm) (v : Value) (w : World) (h : PrmsAt w v es) (hs : es.length ≤ 17592186044416) (hS : Std w) (hl : ∀ p ∈ es, p.1.size ≤ 140737488355328 ∧ p.2.size ≤ 140737488355328) :
    Calls Tryz.prog 38 #[v, .func (.func 75) #[] #[]] w fun e w' => e = .returned (.int .i64 (fstI (wrongB) es)) ∧ Below w.heap.size w w' := by
  obtain ⟨a, c, rfl, hmem⟩ := h
  have HM := Lib.hid hmem
  clear hmem
  obtain ⟨n, hn⟩ : ∃ n, es.length = n := ⟨_, rfl⟩
  have HN := Lib.hid hn
  rw [hn] at hs ⊢
  clear hn
  go_enter Tryz.func38, Tryz.ntmps38
  go_wp2
  go_loopw [8] (fun i wr => ∃ k : Nat, k ≤ n ∧ i = .int .i64 k ∧ (∀ y ∈ es.take k, (wrongB) y = false) ∧ Below w.heap.size w wr) (fun i _ => n - (intOf i).toNat)
  case atStart => exact ⟨0, by omega, rfl, by simp, Below.refl _ _⟩
  case round =>
    obtain ⟨k, hk, rfl, hall, hB⟩ := hrel
    have HA := Lib.hid hall
    clear hall
    by_cases hlt : k < n
    · obtain ⟨x, hx⟩ : ∃ x, es[k]? = some x := ⟨es[k]'(by rw [HN.out]; exact hlt), List.getElem?_eq_getElem _⟩
      obtain ⟨b, o, ha, hb, hc⟩ := HM.out (by rw [HN.out]; omega)
      subst ha
      have hbw : b < wr.heap.size := Nat.lt_of_lt_of_le hb hB.size
      obtain ⟨c1, c2⟩ := hc k x hx
      have d1 : wr.cell? ⟨b, o + 2 * k, none⟩ = some (.string x.1) := (hB.cell (p := ⟨b, _, none⟩) hb).trans c1
      have d2 : wr.cell? ⟨b, o + 2 * k + 1, none⟩ = some (.string x.2) := (hB.cell (p := ⟨b, _, none⟩) hb).trans c2
      obtain ⟨x1, x2⟩ := x
      have HC := Lib.hid (wrong_any x1 x2 wr (hS.below hB) (by have := (hl _ (List.mem_of_getElem? hx)).1; simp only at this; omega) (by have := (hl _ (List.mem_of_getElem? hx)).2; simp only at this; omega))
      have HX := Lib.hid hx
      clear hc c1 c2 hx
      have e1 : o + k * 2 = o + 2 * k := by omega
      simp only at d1 d2
      by_cases hpx : (wrongB) (x1, x2) = true
      · have HR := Lib.hid (fstI_at HX.out hpx HA.out)
        rw [hpx] at HC
        clear hpx
        go_wp2_with fail
        refine HC.out.mono ?_
        rintro e w' ⟨rfl, hb2⟩
        have B2 := hB.trans (hb2.mono hB.size)
        go_wp2
        go_ret
        exact ⟨by rw [HR.out]; rfl, B2⟩
      · have hpf : (wrongB) (x1, x2) = false := by simpa using hpx
        have HA2 := Lib.hid (show ∀ y ∈ es.take (k + 1), (wrongB) y = false by
          intro y hy
          rw [List.take_add_one, HX.out, List.mem_append] at hy
          rcases hy with hy | hy
          · exact HA.out y hy
          · simp at hy
            rw [hy]; exact hpf)
        rw [hpf] at HC
        clear hpx hpf
        go_wp2_with fail
        refine HC.out.mono ?_
        rintro e w' ⟨rfl, hb2⟩
        have B2 := hB.trans (hb2.mono hB.size)
        go_wp2
        go_roundw
        case rel => exact ⟨k + 1, by omega, by go_num, HA2.out, B2⟩
        case measure => simp [intOf]; omega
    · obtain rfl : k = n := by omega
      have HR := Lib.hid (show fstI (wrongB) es = -1 from fstI_none (fun y hy => HA.out y (by rw [← HN.out, List.take_length]; exact hy)))
      go_wp2
      go_ret
      exact ⟨by rw [HR.out]; rfl, hB⟩
set_option maxHeartbeats 1000000 in
theorem idx_id (id : ByteArray) (bi : Nat) (es : List Elm) (v : Value) (w : World) (h : ElmsAt w v es) (hs : es.length ≤ 17592186044416) (hlt0 : bi < w.heap.size) (hi : w.cell? ⟨bi, 0, none⟩ = some (.string id)) :
    Calls Tryz.prog 36 #[v, .func (.func 37) #[] #[.pointer (some ⟨bi, 0, none⟩)]] w fun e w' => e = .returned (.int .i64 (fstI (isIdB id) es)) ∧ Below w.heap.size w w' := by
  obtain ⟨a, c, rfl, hmem⟩ := h
  have HM := Lib.hid hmem
  clear hmem
  obtain ⟨n, hn⟩ : ∃ n, es.length = n := ⟨_, rfl⟩
  have HN := Lib.hid hn
  rw [hn] at hs ⊢
  clear hn
  go_enter Tryz.func36, Tryz.ntmps36
  go_wp2
  go_loopw [8] (fun i wr => ∃ k : Nat, k ≤ n ∧ i = .int .i64 k ∧ (∀ y ∈ es.take k, (isIdB id) y = false) ∧ Below w.heap.size w wr) (fun i _ => n - (intOf i).toNat)
  case atStart => exact ⟨0, by omega, rfl, by simp, Below.refl _ _⟩
  case round =>
    obtain ⟨k, hk, rfl, hall, hB⟩ := hrel
    have HA := Lib.hid hall
    clear hall
    by_cases hlt : k < n
    · obtain ⟨x, hx⟩ : ∃ x, es[k]? = some x := ⟨es[k]'(by rw [HN.out]; exact hlt), List.getElem?_eq_getElem _⟩
      obtain ⟨b, o, ha, hb, hc⟩ := HM.out (by rw [HN.out]; omega)
      subst ha
      have hbw : b < wr.heap.size := Nat.lt_of_lt_of_le hb hB.size
      obtain ⟨lv, c1, c2, hp⟩ := hc k x hx
      have d1 : wr.cell? ⟨b, o + 2 * k, none⟩ = some (.string x.1) := (hB.cell (p := ⟨b, _, none⟩) hb).trans c1
      have d2 : wr.cell? ⟨b, o + 2 * k + 1, none⟩ = some lv := (hB.cell (p := ⟨b, _, none⟩) hb).trans c2
      have hp' := hp.below hB
      obtain ⟨x1, x2⟩ := x
      have HC := Lib.hid (isId_any x1 x2 lv wr id bi (Nat.lt_of_lt_of_le hlt0 hB.size) ((hB.cell (p := ⟨bi, 0, none⟩) hlt0).trans hi))
      have HX := Lib.hid hx
      clear hc c1 c2 hp hp' hx
      have e1 : o + k * 2 = o + 2 * k := by omega
      simp only at d1 d2
      by_cases hpx : (isIdB id) (x1, x2) = true
      · have HR := Lib.hid (fstI_at HX.out hpx HA.out)
        rw [hpx] at HC
        clear hpx
        go_wp2_with fail
        refine HC.out.mono ?_
        rintro e w' ⟨rfl, hb2⟩
        have B2 := hB.trans (hb2.mono hB.size)
        go_wp2
        go_ret
        exact ⟨by rw [HR.out]; rfl, B2⟩
      · have hpf : (isIdB id) (x1, x2) = false := by simpa using hpx
        have HA2 := Lib.hid (show ∀ y ∈ es.take (k + 1), (isIdB id) y = false by
          intro y hy
          rw [List.take_add_one, HX.out, List.mem_append] at hy
          rcases hy with hy | hy
          · exact HA.out y hy
          · simp at hy
            rw [hy]; exact hpf)
        rw [hpf] at HC
        clear hpx hpf
        go_wp2_with fail
        refine HC.out.mono ?_
        rintro e w' ⟨rfl, hb2⟩
        have B2 := hB.trans (hb2.mono hB.size)
        go_wp2
        go_roundw
        case rel => exact ⟨k + 1, by omega, by go_num, HA2.out, B2⟩
        case measure => simp [intOf]; omega
    · obtain rfl : k = n := by omega
      have HR := Lib.hid (show fstI (isIdB id) es = -1 from fstI_none (fun y hy => HA.out y (by rw [← HN.out, List.take_length]; exact hy)))
      go_wp2
      go_ret
      exact ⟨by rw [HR.out]; rfl, hB⟩
set_option maxHeartbeats 1000000 in
theorem idx_name (id : ByteArray) (bi : Nat) (es : List Prm) (v : Value) (w : World) (h : PrmsAt w v es) (hs : es.length ≤ 17592186044416) (hlt0 : bi < w.heap.size) (hi : w.cell? ⟨bi, 0, none⟩ = some (.string id)) :
    Calls Tryz.prog 38 #[v, .func (.func 39) #[] #[.pointer (some ⟨bi, 0, none⟩)]] w fun e w' => e = .returned (.int .i64 (fstI (isNmB id) es)) ∧ Below w.heap.size w w' := by
  obtain ⟨a, c, rfl, hmem⟩ := h
  have HM := Lib.hid hmem
  clear hmem
  obtain ⟨n, hn⟩ : ∃ n, es.length = n := ⟨_, rfl⟩
  have HN := Lib.hid hn
  rw [hn] at hs ⊢
  clear hn
  go_enter Tryz.func38, Tryz.ntmps38
  go_wp2
  go_loopw [8] (fun i wr => ∃ k : Nat, k ≤ n ∧ i = .int .i64 k ∧ (∀ y ∈ es.take k, (isNmB id) y = false) ∧ Below w.heap.size w wr) (fun i _ => n - (intOf i).toNat)
  case atStart => exact ⟨0, by omega, rfl, by simp, Below.refl _ _⟩
  case round =>
    obtain ⟨k, hk, rfl, hall, hB⟩ := hrel
    have HA := Lib.hid hall
    clear hall
    by_cases hlt : k < n
    · obtain ⟨x, hx⟩ : ∃ x, es[k]? = some x := ⟨es[k]'(by rw [HN.out]; exact hlt), List.getElem?_eq_getElem _⟩
      obtain ⟨b, o, ha, hb, hc⟩ := HM.out (by rw [HN.out]; omega)
      subst ha
      have hbw : b < wr.heap.size := Nat.lt_of_lt_of_le hb hB.size
      obtain ⟨c1, c2⟩ := hc k x hx
      have d1 : wr.cell? ⟨b, o + 2 * k, none⟩ = some (.string x.1) := (hB.cell (p := ⟨b, _, none⟩) hb).trans c1
      have d2 : wr.cell? ⟨b, o + 2 * k + 1, none⟩ = some (.string x.2) := (hB.cell (p := ⟨b, _, none⟩) hb).trans c2
      obtain ⟨x1, x2⟩ := x
      have HC := Lib.hid (isName_any x1 x2 wr id bi (Nat.lt_of_lt_of_le hlt0 hB.size) ((hB.cell (p := ⟨bi, 0, none⟩) hlt0).trans hi))
      have HX := Lib.hid hx
      clear hc c1 c2 hx
      have e1 : o + k * 2 = o + 2 * k := by omega
      simp only at d1 d2
      by_cases hpx : (isNmB id) (x1, x2) = true
      · have HR := Lib.hid (fstI_at HX.out hpx HA.out)
        rw [hpx] at HC
        clear hpx
        go_wp2_with fail
        refine HC.out.mono ?_
        rintro e w' ⟨rfl, hb2⟩
        have B2 := hB.trans (hb2.mono hB.size)
        go_wp2
        go_ret
        exact ⟨by rw [HR.out]; rfl, B2⟩
      · have hpf : (isNmB id) (x1, x2) = false := by simpa using hpx
        have HA2 := Lib.hid (show ∀ y ∈ es.take (k + 1), (isNmB id) y = false by
          intro y hy
          rw [List.take_add_one, HX.out, List.mem_append] at hy
          rcases hy with hy | hy
          · exact HA.out y hy
          · simp at hy
            rw [hy]; exact hpf)
        rw [hpf] at HC
        clear hpx hpf
        go_wp2_with fail
        refine HC.out.mono ?_
        rintro e w' ⟨rfl, hb2⟩
        have B2 := hB.trans (hb2.mono hB.size)
        go_wp2
        go_roundw
        case rel => exact ⟨k + 1, by omega, by go_num, HA2.out, B2⟩
        case measure => simp [intOf]; omega
    · obtain rfl : k = n := by omega
      have HR := Lib.hid (show fstI (isNmB id) es = -1 from fstI_none (fun y hy => HA.out y (by rw [← HN.out, List.take_length]; exact hy)))
      go_wp2
      go_ret
      exact ⟨by rw [HR.out]; rfl, hB⟩
theorem any_long (es : List Elm) (v : Value) (w : World) (h : ElmsAt w v es) (hs : es.length ≤ 17592186044416) (hl : ∀ e ∈ es, e.2.length ≤ 17592186044416) :
    Calls Tryz.prog 45 #[v, .func (.func 46) #[] #[]] w fun e w' => e = .returned (.bool (es.any (longB))) ∧ Below w.heap.size w w' := by
  have HI := Lib.hid (idx_long es v w h hs hl)
  have HA := Lib.hid (fstI_any (longB) es)
  generalize fstI (longB) es = r at HI HA
  go_enter Tryz.func45, Tryz.ntmps45
  go_wp2_with fail
  refine HI.out.mono ?_
  rintro e w' ⟨rfl, hb⟩
  go_wp2
  go_ret
  refine ⟨?_, hb⟩
  have : decide (0 ≤ r) = es.any (longB) := by
    rw [Bool.eq_iff_iff, decide_eq_true_iff]
    exact iff_of_eq HA.out
  rw [← this]
  rfl
theorem any_wrong (es : List Prm) (v : Value) (w : World) (h : PrmsAt w v es) (hs : es.length ≤ 17592186044416) (hS : Std w) (hl : ∀ p ∈ es, p.1.size ≤ 140737488355328 ∧ p.2.size ≤ 140737488355328) :
    Calls Tryz.prog 74 #[v, .func (.func 75) #[] #[]] w fun e w' => e = .returned (.bool (es.any (wrongB))) ∧ Below w.heap.size w w' := by
  have HI := Lib.hid (idx_wrong es v w h hs hS hl)
  have HA := Lib.hid (fstI_any (wrongB) es)
  generalize fstI (wrongB) es = r at HI HA
  go_enter Tryz.func74, Tryz.ntmps74
  go_wp2_with fail
  refine HI.out.mono ?_
  rintro e w' ⟨rfl, hb⟩
  go_wp2
  go_ret
  refine ⟨?_, hb⟩
  have : decide (0 ≤ r) = es.any (wrongB) := by
    rw [Bool.eq_iff_iff, decide_eq_true_iff]
    exact iff_of_eq HA.out
  rw [← this]
  rfl
end Go.Proofs.YtnaijahhogndjaaGreatDoor
