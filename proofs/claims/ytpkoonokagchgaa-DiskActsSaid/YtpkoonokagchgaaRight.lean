/- What Right of package disk answers of a disk: whether it is right. Conditions: at most 1000000 sectors and writes. -/
import Derived.Test.YtpkoonokagchgaaKeepLists
namespace Go.Proofs.Ytpkoonokagchgaa
open Go.ChangeShapes Go.WideShapes Go.ChangeAt Go.RowKit Go.Shelf

def okS (sz : Int) (x : ByteArray) : Prop := (x.size : Int) = sz
def okW (n : Nat) (sz : Int) (x : Wr) : Prop := 0 ≤ x.p ∧ x.p < n ∧ 1 ≤ (x.s.size : Int) ∧ (x.s.size : Int) ≤ sz

theorem wrongS_any (x : ByteArray) (sz : Int) (r : Nat) (w : World) (h0 : w.cell? ⟨r, 0, none⟩ = some (.int .i64 sz)) :
    Calls Try.prog 33 #[.string x, .pointer (some ⟨r, 0, none⟩)] w fun e w' => (∃ B : Bool, e = .returned (.bool B) ∧ (B = true ↔ ¬ okS sz x)) ∧ Below w.heap.size w w' := by
  unfold okS
  by_cases h : (x.size : Int) = sz
  · go_enter Try.func33, Try.ntmps33
    go_wp2
    go_ret
    exact ⟨⟨_, rfl, by simp [h]⟩, Below.refl _ _⟩
  · go_enter Try.func33, Try.ntmps33
    go_wp2
    go_ret
    exact ⟨⟨_, rfl, by simp [h]⟩, Below.refl _ _⟩

set_option maxHeartbeats 1000000 in
set_option maxRecDepth 100000 in
theorem wrongW_any (x : Wr) (sz : Int) (kA : Option Addr) (n kc r : Nat) (w : World) (h0 : w.cell? ⟨r, 0, none⟩ = some (.int .i64 sz)) (h1 : w.cell? ⟨r, 1, none⟩ = some (.slice kA n kc)) :
    Calls Try.prog 34 #[.agg #[.int .i64 x.p, .string x.s], .pointer (some ⟨r, 0, none⟩)] w fun e w' => (∃ B : Bool, e = .returned (.bool B) ∧ (B = true ↔ ¬ okW n sz x)) ∧ Below w.heap.size w w' := by
  have hr := cell_lt h0
  have hr' : r < w.heap.size := hr
  have g0 : ∀ o, (w.alloc o).cell? ⟨r, 0, none⟩ = some (.int .i64 sz) := fun o => ((bcell (alloc_below w o)).1 r 0 hr').trans h0
  have g1 : ∀ o, (w.alloc o).cell? ⟨r, 1, none⟩ = some (.slice kA n kc) := fun o => ((bcell (alloc_below w o)).1 r 1 hr').trans h1
  have HH : Hid (∀ W, Calls Try.prog 35 #[.slice kA n kc, .int .i64 x.p] W fun e w' => e = .returned (.bool (hasB n x.p)) ∧ W = w') := Lib.hid fun W => has_any kA n kc x.p W
  have HWI : Hid (∀ W, Calls Try.prog 36 #[.int .i64 (x.s.size : Int), .int .i64 1, .int .i64 sz] W fun e w' => e = .returned (.bool (withinB x.s.size 1 sz)) ∧ W = w') := Lib.hid fun W => within_any _ _ _ W
  have HOK : Hid (okW n sz x ↔ hasB n x.p = true ∧ withinB x.s.size 1 sz = true) := Lib.hid (by
    unfold okW
    rw [hasB_iff, withinB_iff]
    constructor
    · exact fun ⟨a, b, c, d⟩ => ⟨⟨a, b⟩, c, d⟩
    · exact fun ⟨⟨a, b⟩, c, d⟩ => ⟨a, b, c, d⟩)
  generalize hp : hasB n x.p = P at *
  generalize hq : withinB x.s.size 1 sz = Q at *
  clear hp hq
  cases P
  · go_enter Try.func34, Try.ntmps34
    go_wp2_with fail
    refine (HH.out _).mono ?_
    rintro e w1 ⟨rfl, rfl⟩
    go_wp2
    go_ret
    exact ⟨⟨_, rfl, by simp [HOK.out]⟩, alloc_below _ _⟩
  · cases Q
    · go_enter Try.func34, Try.ntmps34
      go_wp2_with fail
      refine (HH.out _).mono ?_
      rintro e w1 ⟨rfl, rfl⟩
      go_wp2_with fail
      refine (HWI.out _).mono ?_
      rintro e w1 ⟨rfl, rfl⟩
      go_wp2
      go_ret
      exact ⟨⟨_, rfl, by simp [HOK.out]⟩, alloc_below _ _⟩
    · go_enter Try.func34, Try.ntmps34
      go_wp2_with fail
      refine (HH.out _).mono ?_
      rintro e w1 ⟨rfl, rfl⟩
      go_wp2_with fail
      refine (HWI.out _).mono ?_
      rintro e w1 ⟨rfl, rfl⟩
      go_wp2
      go_ret
      exact ⟨⟨_, rfl, by simp [HOK.out]⟩, alloc_below _ _⟩

theorem all_next {α : Type} {p : α → Prop} {l : List α} {k : Nat} {x : α} (hx : l[k]? = some x) (h : ∀ y ∈ l.take k, p y) (hp : p x) : ∀ y ∈ l.take (k + 1), p y := by
  intro y hy
  rw [List.take_add_one, hx, List.mem_append] at hy
  rcases hy with hy | hy
  · exact h y hy
  · simp at hy
    rw [hy]; exact hp

set_option maxHeartbeats 1000000 in
set_option maxRecDepth 100000 in
theorem idxS_any (ks : List ByteArray) (sz : Int) (kA : Option Addr) (kc r : Nat) (w : World) (h0 : w.cell? ⟨r, 0, none⟩ = some (.int .i64 sz)) (hr : RowT w kA kc ks) (hs : ks.length ≤ 1000000) :
    Calls Try.prog 53 #[.slice kA ks.length kc, .func (.func 33) #[] #[.pointer (some ⟨r, 0, none⟩)]] w fun e w' => (∃ j : Int, e = .returned (.int .i64 j) ∧ (0 ≤ j ↔ ¬ ∀ x ∈ ks, okS sz x)) ∧ Below w.heap.size w w' := by
  have HR := Lib.hid hr
  obtain ⟨n, hn⟩ : ∃ n, ks.length = n := ⟨_, rfl⟩
  have HN := Lib.hid hn
  have hl := cell_lt h0
  have H0 : Hid (∀ W, Below w.heap.size w W → W.cell? ⟨r, 0, none⟩ = some (.int .i64 sz)) := Lib.hid fun W hW => (hW.cell hl).trans h0
  rw [hn] at hs ⊢
  clear hn hr hl
  go_enter Try.func53, Try.ntmps53
  go_wp2
  go_loopw [8] (fun i wr => ∃ k : Nat, k ≤ n ∧ i = .int .i64 k ∧ Hid (∀ y ∈ ks.take k, okS sz y) ∧ Below w.heap.size w wr) (fun i _ => n - (intOf i).toNat)
  case atStart => exact ⟨0, by omega, rfl, Lib.hid (by simp), Below.refl _ _⟩
  case round =>
    rename World => wr
    obtain ⟨k, hk, rfl, HA, hB⟩ := hrel
    by_cases hlt : k < n
    · have hkl : k < ks.length := by rw [HN.out]; exact hlt
      obtain ⟨x, hx⟩ : ∃ x, ks[k]? = some x := ⟨_, List.getElem?_eq_getElem hkl⟩
      obtain ⟨b, o, rfl, hb, hc⟩ := (HR.out.below hB).cell hkl
      have d1 := hc k x hx
      have HX := Lib.hid hx
      have HC := Lib.hid (wrongS_any x sz r wr (H0.out _ hB))
      clear hc hx hkl
      go_wp2_with fail
      refine HC.out.mono ?_
      rintro e w' ⟨⟨B, rfl, hBB⟩, hb2⟩
      have B2 := below_trans hB hb2
      cases B
      · have hok : okS sz x := Classical.byContradiction fun h => by simp [h] at hBB
        have HA2 := Lib.hid (all_next HX.out HA.out hok)
        clear hBB hok
        go_wp2
        go_roundw
        case rel => exact ⟨k + 1, by omega, by go_num, HA2, B2⟩
        case measure => simp [intOf]; omega
      · have HN2 := Lib.hid (hBB.1 rfl)
        clear hBB
        go_wp2
        go_ret
        refine ⟨⟨_, rfl, ?_⟩, B2⟩
        constructor
        · exact fun _ hall => HN2.out (hall x (List.mem_of_getElem? HX.out))
        · exact fun _ => by omega
    · obtain rfl : n = k := by omega
      go_wp2
      go_ret
      refine ⟨⟨_, rfl, ?_⟩, hB⟩
      constructor
      · intro h
        exact absurd h (by decide)
      · intro h
        exact absurd (fun x hx => HA.out x (by rw [← HN.out, List.take_length]; exact hx)) h

set_option maxHeartbeats 1000000 in
set_option maxRecDepth 100000 in
theorem idxW_any (ws : List Wr) (sz : Int) (kA : Option Addr) (n kc : Nat) (wA : Option Addr) (wc r : Nat) (w : World) (h0 : w.cell? ⟨r, 0, none⟩ = some (.int .i64 sz)) (h1 : w.cell? ⟨r, 1, none⟩ = some (.slice kA n kc)) (hr : RowW w wA wc ws) (hs : ws.length ≤ 1000000) :
    Calls Try.prog 54 #[.slice wA ws.length wc, .func (.func 34) #[] #[.pointer (some ⟨r, 0, none⟩)]] w fun e w' => (∃ j : Int, e = .returned (.int .i64 j) ∧ (0 ≤ j ↔ ¬ ∀ x ∈ ws, okW n sz x)) ∧ Below w.heap.size w w' := by
  have HR := Lib.hid hr
  obtain ⟨m, hn⟩ : ∃ m, ws.length = m := ⟨_, rfl⟩
  have HN := Lib.hid hn
  have hl := cell_lt h0
  have H0 : Hid (∀ W, Below w.heap.size w W → W.cell? ⟨r, 0, none⟩ = some (.int .i64 sz)) := Lib.hid fun W hW => (hW.cell hl).trans h0
  have H1 : Hid (∀ W, Below w.heap.size w W → W.cell? ⟨r, 1, none⟩ = some (.slice kA n kc)) := Lib.hid fun W hW => (hW.cell (cell_lt h1)).trans h1
  rw [hn] at hs ⊢
  clear hn hr hl
  go_enter Try.func54, Try.ntmps54
  go_wp2
  go_loopw [8] (fun i wr => ∃ k : Nat, k ≤ m ∧ i = .int .i64 k ∧ Hid (∀ y ∈ ws.take k, okW n sz y) ∧ Below w.heap.size w wr) (fun i _ => m - (intOf i).toNat)
  case atStart => exact ⟨0, by omega, rfl, Lib.hid (by simp), Below.refl _ _⟩
  case round =>
    rename World => wr
    obtain ⟨k, hk, rfl, HA, hB⟩ := hrel
    by_cases hlt : k < m
    · have hkl : k < ws.length := by rw [HN.out]; exact hlt
      obtain ⟨x, hx⟩ : ∃ x, ws[k]? = some x := ⟨_, List.getElem?_eq_getElem hkl⟩
      obtain ⟨b, o, rfl, hb, hc⟩ := (HR.out.below hB).cell hkl
      obtain ⟨d1, d2⟩ := hc k x hx
      have HX := Lib.hid hx
      have HC := Lib.hid (wrongW_any x sz kA n kc r wr (H0.out _ hB) (H1.out _ hB))
      clear hc hx hkl
      go_wp2_with fail
      refine HC.out.mono ?_
      rintro e w' ⟨⟨B, rfl, hBB⟩, hb2⟩
      have B2 := below_trans hB hb2
      cases B
      · have hok : okW n sz x := Classical.byContradiction fun h => by simp [h] at hBB
        have HA2 := Lib.hid (all_next HX.out HA.out hok)
        clear hBB hok
        go_wp2
        go_roundw
        case rel => exact ⟨k + 1, by omega, by go_num, HA2, B2⟩
        case measure => simp [intOf]; omega
      · have HN2 := Lib.hid (hBB.1 rfl)
        clear hBB
        go_wp2
        go_ret
        refine ⟨⟨_, rfl, ?_⟩, B2⟩
        constructor
        · exact fun _ hall => HN2.out (hall x (List.mem_of_getElem? HX.out))
        · exact fun _ => by omega
    · obtain rfl : m = k := by omega
      go_wp2
      go_ret
      refine ⟨⟨_, rfl, ?_⟩, hB⟩
      constructor
      · intro h
        exact absurd h (by decide)
      · intro h
        exact absurd (fun x hx => HA.out x (by rw [← HN.out, List.take_length]; exact hx)) h

theorem anyS (ks : List ByteArray) (sz : Int) (kA : Option Addr) (kc r : Nat) (w : World) (h0 : w.cell? ⟨r, 0, none⟩ = some (.int .i64 sz)) (hr : RowT w kA kc ks) (hs : ks.length ≤ 1000000) :
    Calls Try.prog 37 #[.slice kA ks.length kc, .func (.func 33) #[] #[.pointer (some ⟨r, 0, none⟩)]] w fun e w' => (∃ B : Bool, e = .returned (.bool B) ∧ (B = true ↔ ¬ ∀ x ∈ ks, okS sz x)) ∧ Below w.heap.size w w' := by
  have H := Lib.hid (idxS_any ks sz kA kc r w h0 hr hs)
  generalize ks.length = n at *
  go_enter Try.func37, Try.ntmps37
  go_wp2_with fail
  refine H.out.mono ?_
  rintro e w' ⟨⟨j, rfl, hj⟩, hb⟩
  have HJ := Lib.hid hj
  clear hj
  go_wp2
  go_ret
  exact ⟨⟨_, rfl, by simpa using HJ.out⟩, hb⟩
theorem anyW (ws : List Wr) (sz : Int) (kA : Option Addr) (n kc : Nat) (wA : Option Addr) (wc r : Nat) (w : World) (h0 : w.cell? ⟨r, 0, none⟩ = some (.int .i64 sz)) (h1 : w.cell? ⟨r, 1, none⟩ = some (.slice kA n kc)) (hr : RowW w wA wc ws) (hs : ws.length ≤ 1000000) :
    Calls Try.prog 38 #[.slice wA ws.length wc, .func (.func 34) #[] #[.pointer (some ⟨r, 0, none⟩)]] w fun e w' => (∃ B : Bool, e = .returned (.bool B) ∧ (B = true ↔ ¬ ∀ x ∈ ws, okW n sz x)) ∧ Below w.heap.size w w' := by
  have H := Lib.hid (idxW_any ws sz kA n kc wA wc r w h0 h1 hr hs)
  generalize ws.length = m at *
  go_enter Try.func38, Try.ntmps38
  go_wp2_with fail
  refine H.out.mono ?_
  rintro e w' ⟨⟨j, rfl, hj⟩, hb⟩
  have HJ := Lib.hid hj
  clear hj
  go_wp2
  go_ret
  exact ⟨⟨_, rfl, by simpa using HJ.out⟩, hb⟩

theorem ok_iff (d : Dk) : Ok d ↔ shapedB d.ks.length d.sz = true ∧ (∀ x ∈ d.ks, okS d.sz x) ∧ ∀ x ∈ d.ws, okW d.ks.length d.sz x := by
  rw [shapedB_iff]
  constructor
  · intro h
    have h1 := h.s1; have h2 := h.s2; have h3 := h.n1; have h4 := h.n2
    exact ⟨⟨by omega, by omega, by omega, by omega⟩, h.k, fun x hx => by
      have := h.w x hx
      exact ⟨this.1, this.2.1, by omega, this.2.2.2⟩⟩
  · intro ⟨⟨h1, h2, h3, h4⟩, hk, hw⟩
    exact ⟨h3, h4, by omega, by omega, hk, fun x hx => by
      have := hw x hx
      exact ⟨this.1, this.2.1, by have := this.2.2.1; omega, this.2.2.2⟩⟩

set_option maxHeartbeats 1000000 in
set_option maxRecDepth 100000 in
theorem right_any (d : Dk) (kA : Option Addr) (kc : Nat) (wA : Option Addr) (wc : Nat) (w : World) (hA : At w d kA kc wA wc) (hk : d.ks.length ≤ 1000000) (hm : d.ws.length ≤ 1000000) :
    Calls Try.prog 15 #[dval d kA kc wA wc] w fun e w' => (∃ B : Bool, e = .returned (.bool B) ∧ (B = true ↔ Ok d)) ∧ Below w.heap.size w w' := by
  have HI := Lib.hid (ok_iff d)
  obtain ⟨n, hn⟩ : ∃ n, d.ks.length = n := ⟨_, rfl⟩
  obtain ⟨m, hmm⟩ : ∃ m, d.ws.length = m := ⟨_, rfl⟩
  obtain ⟨sz, hs⟩ : ∃ sz, d.sz = sz := ⟨_, rfl⟩
  obtain ⟨off, ho⟩ : ∃ off, d.off = off := ⟨_, rfl⟩
  have HSH : Hid (∀ W, Calls Try.prog 30 #[.int .i64 (n : Int), .int .i64 sz] W fun e w' => e = .returned (.bool (shapedB n sz)) ∧ W = w') := Lib.hid fun W => shaped_any _ _ W
  have HS : Hid (∀ W r, Below w.heap.size w W → W.cell? ⟨r, 0, none⟩ = some (.int .i64 sz) → Calls Try.prog 37 #[.slice kA n kc, .func (.func 33) #[] #[.pointer (some ⟨r, 0, none⟩)]] W fun e w' => (∃ B : Bool, e = .returned (.bool B) ∧ (B = true ↔ ¬ ∀ x ∈ d.ks, okS sz x)) ∧ Below W.heap.size W w') := Lib.hid fun W r hW h0 => by
    subst hn
    exact anyS d.ks sz kA kc r W h0 (hA.rowT.below hW) hk
  have HW : Hid (∀ W r, Below w.heap.size w W → W.cell? ⟨r, 0, none⟩ = some (.int .i64 sz) → W.cell? ⟨r, 1, none⟩ = some (.slice kA n kc) → Calls Try.prog 38 #[.slice wA m wc, .func (.func 34) #[] #[.pointer (some ⟨r, 0, none⟩)]] W fun e w' => (∃ B : Bool, e = .returned (.bool B) ∧ (B = true ↔ ¬ ∀ x ∈ d.ws, okW n sz x)) ∧ Below W.heap.size W w') := Lib.hid fun W r hW h0 h1 => by
    subst hmm
    exact anyW d.ws sz kA n kc wA wc r W h0 h1 (hA.rowW.below hW) hm
  have HX : Hid (Bx (w.alloc (.cells #[.int .i64 sz, .slice kA n kc, .slice wA m wc, .bool off] 25)) w.heap.size 25 #[.int .i64 sz, .slice kA n kc, .slice wA m wc, .bool off]) := Lib.hid (Bx.new w 25 _)
  unfold dval
  rw [hn, hs] at HI
  rw [hn, hmm, hs, ho]
  clear hA hk hm hn hmm hs ho
  generalize hsh : shapedB n sz = T at *
  clear hsh
  go_enter Try.func15, Try.ntmps15
  go_wp2_with fail
  obtain ⟨V, hV⟩ : ∃ V, w.alloc (.cells #[.int .i64 sz, .slice kA n kc, .slice wA m wc, .bool off] 25) = V := ⟨_, rfl⟩
  have HB0 : Hid (Below w.heap.size w V) := Lib.hid (by rw [← hV]; exact alloc_below w _)
  rw [hV] at HX ⊢
  clear hV
  refine (HSH.out _).mono ?_
  rintro e w1 ⟨rfl, rfl⟩
  cases T
  · go_wp2
    go_ret
    exact ⟨⟨_, rfl, by rw [HI.out]; simp⟩, HB0.out⟩
  · obtain ⟨z0, z1, z2, z3⟩ := HX.out.four
    go_wp2_with fail
    refine (HS.out _ _ HB0.out z0).mono ?_
    rintro e w2 ⟨⟨B, rfl, hBB⟩, hb2⟩
    have HBB := Lib.hid hBB
    have HB2 := Lib.hid (below_trans HB0.out hb2)
    have HX2 := Lib.hid (HX.out.below hb2)
    clear z0 z1 z2 z3 hBB hb2
    obtain ⟨z0, z1, z2, z3⟩ := HX2.out.four
    cases B
    · go_wp2_with fail
      refine (HW.out _ _ HB2.out z0 z1).mono ?_
      rintro e w3 ⟨⟨B3, rfl, hB3⟩, hb3⟩
      have HB3 := Lib.hid hB3
      have HB4 := Lib.hid (below_trans HB2.out hb3)
      clear z0 z1 z2 z3 hB3 hb3
      have h1 : ∀ x ∈ d.ks, okS sz x := Classical.byContradiction fun h => by have := HBB.out.2 h; cases this
      have H1 := Lib.hid h1
      clear h1
      cases B3
      · have H2 : Hid (∀ x ∈ d.ws, okW n sz x) := Lib.hid (Classical.byContradiction fun h => by have := HB3.out.2 h; cases this)
        go_wp2
        go_ret
        exact ⟨⟨_, rfl, by rw [HI.out]; exact ⟨fun _ => ⟨by trivial, H1.out, H2.out⟩, fun _ => by simp⟩⟩, HB4.out⟩
      · have H2 := Lib.hid (HB3.out.1 rfl)
        go_wp2
        go_ret
        exact ⟨⟨_, rfl, by rw [HI.out]; exact ⟨fun h => by simp at h, fun h => absurd h.2.2 H2.out⟩⟩, HB4.out⟩
    · have H1 := Lib.hid (HBB.out.1 rfl)
      go_wp2
      go_ret
      exact ⟨⟨_, rfl, by rw [HI.out]; exact ⟨fun h => by simp at h, fun h => absurd h.2.1 H1.out⟩⟩, HB2.out⟩
end Go.Proofs.Ytpkoonokagchgaa
