/- What the document's own elem answers of every text. Condition: the size. -/
import Derived.Test.YtmmghppjhmdikaaGreatDoorAF4
import Derived.Test.YtmmghppjhmdikaaGreatDoorAF31
import Derived.Test.YtmmghppjhmdikaaGreatDoorAF10
import Derived.Deep.RegionHeld
import Derived.OrdersHeld
namespace Go.Proofs.YtmmghppjhmdikaaGreatDoor
open Go.ChangeShapes Go.WideShapes Go.ChangeAt Go.RowKit

/-- Where a byte stands first. -/
def atB (q : List UInt8) (c : UInt8) : Nat := q.findIdx fun b => b == c
/-- Parameters off a text, as the document reads them. -/
def prmsD : Nat → List UInt8 → Option (List Prm × List UInt8)
  | 0, _ => none
  | n + 1, r =>
    if r.head? = some 32 then
      if atB r.tail 61 < r.tail.length ∧ (r.tail.drop (atB r.tail 61 + 1)).head? = some 34 then
        match takeV (r.tail.drop (atB r.tail 61 + 2)) with
        | some p => if p.2 = [] then none else (prmsD n p.2).map fun z => ((bytes (r.tail.take (atB r.tail 61)), bytes p.1) :: z.1, z.2)
        | none => none
      else none
    else some ([], r)
/-- Where the first blank or ] stands. -/
def atE (q : List UInt8) : Nat := q.findIdx fun b => b == 32 || b == 93
/-- An element off a text, from behind its beginning on, as the document reads it. -/
def elemD (r : List UInt8) : Option (Elm × List UInt8) :=
  if atE r < r.length then
    match prmsD (r.length + 1) (r.drop (atE r)) with
    | some p => if p.2.head? = some 93 then some ((bytes (r.take (atE r)), p.1), p.2.tail) else none
    | none => none
  else none
/-- What elem's worlds hold of its variables. -/
structure DAt (w W : World) (c0 lv : Value) (ps : List Prm) : Prop where
  k0 : W.cell? ⟨w.heap.size + 1, 0, none⟩ = some c0
  k1 : W.cell? ⟨w.heap.size + 1, 1, none⟩ = some lv
  e0 : ∃ v, W.cell? ⟨w.heap.size, 0, none⟩ = some v
  e1 : ∃ v, W.cell? ⟨w.heap.size, 1, none⟩ = some v
  z : w.heap.size + 1 < W.heap.size
  f0 : ∀ o, W.frozen? ⟨w.heap.size, o, none⟩ = false
  f1 : ∀ o, W.frozen? ⟨w.heap.size + 1, o, none⟩ = false
  b : Below w.heap.size w W
  own : W.ownsRow (w.heap.size + 2) 74 2 lv ps.length (pcells ps)
variable {w W : World} {c0 lv : Value} {ps : List Prm}
theorem DAt.below {W' : World} (h : DAt w W c0 lv ps) (hb : Below W.heap.size W W') : DAt w W' c0 lv ps := by
  have hz := h.z
  have hc : ∀ b o, b < W.heap.size → W'.cell? ⟨b, o, none⟩ = W.cell? ⟨b, o, none⟩ := (bcell hb).1
  have hf : ∀ b o, b < W.heap.size → W'.frozen? ⟨b, o, none⟩ = W.frozen? ⟨b, o, none⟩ := (bcell hb).2
  obtain ⟨v0, h0⟩ := h.e0
  obtain ⟨v1, h1⟩ := h.e1
  exact ⟨(hc _ _ (by omega)).trans h.k0, (hc _ _ (by omega)).trans h.k1, ⟨v0, (hc _ _ (by omega)).trans h0⟩, ⟨v1, (hc _ _ (by omega)).trans h1⟩, Nat.lt_of_lt_of_le hz hb.size, fun o => (hf _ _ (by omega)).trans (h.f0 o), fun o => (hf _ _ (by omega)).trans (h.f1 o),
    h.b.trans (hb.mono h.b.size), kept_below h.own hb⟩
theorem DAt.push {w' : World} {v' : Value} {p : Prm} (h : DAt w W c0 lv ps) (hg : W.grownBy w' lv.ownBlock) (hown : w'.ownsRow (w.heap.size + 2) 74 2 v' (ps.length + 1) (pcells ps ++ [.string p.1, .string p.2])) :
    DAt w (w'.setCell ⟨w.heap.size + 1, 1, none⟩ v') c0 v' (ps ++ [p]) := by
  have hz := h.z
  have hrow : ∀ k, lv.ownBlock = some k → w.heap.size + 2 ≤ k := fun k hk => (h.own.lt k hk).1
  have hne : ∀ b, b < w.heap.size + 2 → some b ≠ lv.ownBlock := fun b hb he => by have := hrow b he.symm; omega
  have hc : ∀ b o, b < w.heap.size + 2 → w'.cell? ⟨b, o, none⟩ = W.cell? ⟨b, o, none⟩ := fun b o hb => World.cell?_of_block (hg.block b (by omega) (hne b hb))
  have hf : ∀ b o, b < w.heap.size + 2 → w'.frozen? ⟨b, o, none⟩ = W.frozen? ⟨b, o, none⟩ := fun b o hb => World.frozen?_of_block (hg.block b (by omega) (hne b hb))
  have e0 := (hc (w.heap.size + 1) 0 (by omega)).trans h.k0
  have e1 := (hc (w.heap.size + 1) 1 (by omega)).trans h.k1
  obtain ⟨v0, h0⟩ := h.e0
  obtain ⟨v1, h1⟩ := h.e1
  have g0 := (hc w.heap.size 0 (by omega)).trans h0
  have g1 := (hc w.heap.size 1 (by omega)).trans h1
  refine ⟨by simp [go_sem, e0], by simp [go_sem, e1], ⟨v0, by simp [go_sem, g0]⟩, ⟨v1, by simp [go_sem, g1]⟩, by have := hg.size; simp; omega, fun o => ?_, fun o => ?_, ?_, ?_⟩
  · have := (hf w.heap.size o (by omega)).trans (h.f0 o); simpa [go_sem] using this
  · have := (hf (w.heap.size + 1) o (by omega)).trans (h.f1 o); simpa [go_sem] using this
  · exact (h.b.grown hg h.b.size fun k hk => by have := hrow k hk; omega).setCell (p := ⟨w.heap.size + 1, 1, none⟩) (by simp) _
  · rw [pcells_push, List.length_append]
    exact kept_set hown _ _ fun g hg' => by have := (hown.lt g hg').1; simp; omega
theorem DAt.kept {w' : World} (h : DAt w W c0 lv ps) (hg : W.grownBy w' lv.ownBlock) : ∃ u, w'.cell? ⟨w.heap.size + 1, 1, none⟩ = some u ∧ ∀ o, w'.frozen? ⟨w.heap.size + 1, o, none⟩ = false := by
  have hz := h.z
  have hne : some (w.heap.size + 1) ≠ lv.ownBlock := fun he => by have := (h.own.lt _ he.symm).1; omega
  exact ⟨lv, (World.cell?_of_block (hg.block _ (by omega) hne)).trans h.k1, fun o => (World.frozen?_of_block (hg.block _ (by omega) hne)).trans (h.f1 o)⟩
theorem DAt.shape (h : DAt w W c0 lv ps) : ∃ la lc, lv = .slice la ps.length lc := by
  rcases h.own.2 with ⟨hv, hn⟩ | ⟨g, cap, cur, hv, _⟩
  · rw [hv, hn]; exact ⟨_, _, rfl⟩
  · exact ⟨_, _, hv⟩
theorem takeV_end2 : ∀ (n : Nat) (l : List UInt8) (p : List UInt8 × List UInt8), l.length ≤ n → takeV l = some p → ∃ a, l = a ++ p.2
  | _, [], p, _, h => by cases h
  | _, [c], p, _, h => by
    unfold takeV at h
    split at h
    · cases h; exact ⟨[c], by simp⟩
    · cases h
  | 0, c :: d :: r, p, hn, _ => by simp at hn
  | n + 1, c :: d :: r, p, hn, h => by
    rw [takeV] at h
    split at h
    · cases h; exact ⟨[c], rfl⟩
    · split at h
      · cases h
      · split at h
        · cases hq : takeV r with
          | none => rw [hq] at h; cases h
          | some q =>
            rw [hq] at h
            cases h
            obtain ⟨a, ha⟩ := takeV_end2 n r q (by simp at hn; omega) hq
            exact ⟨c :: d :: a, by simp [← ha]⟩
        · cases hq : takeV (d :: r) with
          | none => rw [hq] at h; cases h
          | some q =>
            rw [hq] at h
            cases h
            obtain ⟨a, ha⟩ := takeV_end2 n (d :: r) q (by simp at hn ⊢; omega) hq
            exact ⟨c :: a, by simp [← ha]⟩
theorem drop_suffix {L t : List UInt8} {k : Nat} {v : List UInt8} (h : takeV (L.drop k) = some (v, t)) : L.drop (L.length - t.length) = t ∧ t.length ≤ L.length - k := by
  obtain ⟨a, ha⟩ := takeV_end2 _ _ _ (Nat.le_refl _) h
  simp only at ha
  have hl := congrArg List.length ha
  rw [List.length_drop, List.length_append] at hl
  refine ⟨?_, by omega⟩
  have hk : k + a.length = L.length - t.length ∨ t = [] := by
    rcases Nat.lt_or_ge k L.length with h1 | h1
    · left; omega
    · right; exact List.eq_nil_of_length_eq_zero (by omega)
  rcases hk with hk | hk
  · rw [← hk, ← List.drop_drop, ha, List.drop_left' rfl]
  · subst hk; simp
theorem findL_one (L : List UInt8) (k : Nat) (c : UInt8) : findL L k c c = if atB (L.drop k) c < (L.drop k).length then ((k + atB (L.drop k) c : Nat) : Int) else -1 := by
  unfold findL atB
  have e : (fun x : UInt8 => x == c || x == c) = fun x => x == c := by funext x; simp
  rw [e]
theorem findL_two (L : List UInt8) (k : Nat) : findL L k 32 93 = if atE (L.drop k) < (L.drop k).length then ((k + atE (L.drop k) : Nat) : Int) else -1 := rfl
theorem prmsD_stop {n : Nat} {r : List UInt8} (h : r.head? ≠ some 32) : prmsD (n + 1) r = some ([], r) := by
  unfold prmsD; rw [if_neg h]
theorem prmsD_32 (n : Nat) (q : List UInt8) : prmsD (n + 1) (32 :: q) =
    if atB q 61 < q.length ∧ (q.drop (atB q 61 + 1)).head? = some 34 then
      (takeV (q.drop (atB q 61 + 2))).bind fun p => if p.2 = [] then none else (prmsD n p.2).map fun z => ((bytes (q.take (atB q 61)), bytes p.1) :: z.1, z.2)
    else none := by
  conv => lhs; unfold prmsD
  by_cases hc : atB q 61 < q.length ∧ (q.drop (atB q 61 + 1)).head? = some 34
  · obtain ⟨c1, c2⟩ := hc
    simp only [List.head?_cons, List.tail_cons, if_true, c1, c2, and_self]
    cases takeV (q.drop (atB q 61 + 2)) <;> rfl
  · simp only [List.head?_cons, List.tail_cons, if_true, hc, if_false]
theorem prmsD_no1 {n : Nat} {r q : List UInt8} (h : r = 32 :: q) (h1 : ¬ (atB q 61 < q.length ∧ (q.drop (atB q 61 + 1)).head? = some 34)) : prmsD (n + 1) r = none := by
  rw [h, prmsD_32, if_neg h1]
theorem prmsD_no2 {n : Nat} {r q : List UInt8} (h : r = 32 :: q) (h1 : atB q 61 < q.length ∧ (q.drop (atB q 61 + 1)).head? = some 34) (h2 : takeV (q.drop (atB q 61 + 2)) = none) : prmsD (n + 1) r = none := by
  rw [h, prmsD_32, if_pos h1, h2]; rfl
theorem prmsD_no3 {n : Nat} {r q v : List UInt8} (h : r = 32 :: q) (h1 : atB q 61 < q.length ∧ (q.drop (atB q 61 + 1)).head? = some 34) (h2 : takeV (q.drop (atB q 61 + 2)) = some (v, [])) : prmsD (n + 1) r = none := by
  rw [h, prmsD_32, if_pos h1, h2]; rfl
theorem prmsD_yes {n : Nat} {r q v t : List UInt8} (h : r = 32 :: q) (h1 : atB q 61 < q.length ∧ (q.drop (atB q 61 + 1)).head? = some 34) (h2 : takeV (q.drop (atB q 61 + 2)) = some (v, t)) (h3 : t ≠ []) :
    prmsD (n + 1) r = (prmsD n t).map fun z => ((bytes (q.take (atB q 61)), bytes v) :: z.1, z.2) := by
  rw [h, prmsD_32, if_pos h1, h2]
  show (if t = [] then none else _) = _
  rw [if_neg h3]
theorem head_at {L : List UInt8} {i : Nat} {c : UInt8} (h : L[i]? = some c) : L.drop i = c :: L.drop (i + 1) ∧ (L.drop i).head? = some c := by
  obtain ⟨h1, h2⟩ := List.getElem?_eq_some_iff.1 h
  rw [List.drop_eq_getElem_cons h1, h2]
  exact ⟨rfl, rfl⟩
/-- What elem answers. -/
def ElemDAns (L : List UInt8) (p : Nat) (w : World) (x : Ending) (w' : World) : Prop :=
  match elemD (L.drop p) with
  | some y => (∃ la lc, x = .returned (.tuple #[.agg #[.string y.1.1, .slice la y.1.2.length lc], .int .i64 ((L.length - y.2.length : Nat) : Int)]) ∧ w'.ownsRow (w.heap.size + 2) 74 2 (.slice la y.1.2.length lc) y.1.2.length (pcells y.1.2)) ∧ Below w.heap.size w w'
  | none => x = .returned (.tuple #[.agg #[.string ⟨#[]⟩, .slice none 0 0], .int .i64 (-1)]) ∧ Below w.heap.size w w'
theorem elemD_no {L : List UInt8} {p : Nat} {w : World} {w' : World} (h : elemD (L.drop p) = none) (hb : Below w.heap.size w w') : ElemDAns L p w (.returned (.tuple #[.agg #[.string ⟨#[]⟩, .slice none 0 0], .int .i64 (-1)])) w' := by
  unfold ElemDAns; rw [h]; exact ⟨rfl, hb⟩
theorem elemD_none {L r : List UInt8} {p : Nat} (hE : atE (L.drop p) < (L.drop p).length) (hr : (L.drop p).drop (atE (L.drop p)) = r) (h : prmsD ((L.drop p).length + 1) r = none) : elemD (L.drop p) = none := by
  unfold elemD; rw [if_pos hE, hr, h]
theorem elemD_some {L r : List UInt8} {p : Nat} {ps : List Prm} {t : List UInt8} {ID : ByteArray} (hE : atE (L.drop p) < (L.drop p).length) (hr : (L.drop p).drop (atE (L.drop p)) = r) (h : prmsD ((L.drop p).length + 1) r = some (ps, t)) (hI : bytes ((L.drop p).take (atE (L.drop p))) = ID) :
    elemD (L.drop p) = if t.head? = some 93 then some ((ID, ps), t.tail) else none := by
  unfold elemD; rw [if_pos hE, hr, h, hI]
set_option maxHeartbeats 16000000 in
set_option maxRecDepth 100000 in
theorem elem_any (s : ByteArray) (p : Nat) (w : World) (hs : s.size ≤ 1073741824) (hp : p ≤ s.size) :
    Calls Tryz.prog 14 #[.string s, .int .i64 p] w (ElemDAns s.data.toList p w) := by
  obtain ⟨i0, hi, hz0, hz1, hz2⟩ := info54_of
  have HI := Lib.hid hi
  have HI0 := Lib.hid hz0
  have HI1 := Lib.hid hz1
  have HI2 := Lib.hid hz2
  clear hi hz0 hz1 hz2
  have hln : s.data.toList.length = s.size := list_size s
  have hF := fun (k : Nat) (a b : UInt8) W => find_any s k a b W (by omega)
  have hT := fun (k : Nat) W (hk : k ≤ s.size) => refTakes_any s k W (by omega) hk
  have hX : ∀ a b : Nat, s.extract a b = bytes ((s.data.toList.drop a).take (b - a)) := fun a b => by rw [Lib.extract_eq]; rfl
  have hG : ∀ (k : Nat) (h : k < s.size), s.data.toList[k]? = some s[k] := fun k h => Lib.data_getElem? s k h
  obtain ⟨L, hL⟩ : ∃ L, s.data.toList = L := ⟨_, rfl⟩
  simp only [hL] at hln hF hT hX hG ⊢
  have HF := Lib.hid hF
  have HTK := Lib.hid hT
  have HX := Lib.hid hX
  have HG := Lib.hid hG
  have HLN := Lib.hid hln
  clear hF hT hX hG hL
  have HF0 := Lib.hid (fun W => HF.out p 32 93 W)
  have hb0 : Below w.heap.size w (w.alloc (.cells #[.string ⟨#[]⟩, .slice none 0 0] 58)) := (Below.refl _ _).alloc (Nat.le_refl _) _
  have HB0 := Lib.hid hb0
  clear hb0
  by_cases hE : atE (L.drop p) < (L.drop p).length
  case neg =>
    have HNL := Lib.hid (show elemD (L.drop p) = none by unfold elemD; rw [if_neg hE])
    have hf : findL L p 32 93 = -1 := by rw [findL_two, if_neg hE]
    rw [hf] at HF0
    clear hE hf hln
    go_enter Tryz.func14, Tryz.ntmps14
    go_wp2_with fail
    refine (HF0.out _).mono ?_
    rintro x w1 ⟨rfl, rfl⟩
    go_wp2
    change bodyPost Tryz.prog Tryz.f14 (ElemDAns L p w) Exit.ret _ _
    refine bodyPost_ret (v := .tuple #[.agg #[.string ⟨#[]⟩, .slice none 0 0], .int .i64 (-1)]) (by simp [results, Tryz.results14, go_sem]) rfl (elemD_no HNL.out HB0.out)
  case pos =>
    obtain ⟨j, hj⟩ : ∃ j, p + atE (L.drop p) = j := ⟨_, rfl⟩
    have hf : findL L p 32 93 = (j : Int) := by rw [findL_two, if_pos hE, hj]
    have hjl : j < L.length := by rw [List.length_drop] at hE; omega
    have hjs : j < s.size := by omega
    have hjs2 : j ≤ s.size := by omega
    have hpj : p ≤ j := by omega
    obtain ⟨ID, hID⟩ : ∃ I, s.extract p j = I := ⟨_, rfl⟩
    have hI2 : bytes ((L.drop p).take (atE (L.drop p))) = ID := by rw [← hID, HX.out, show j - p = atE (L.drop p) by omega]
    have hr1 : (L.drop p).drop (atE (L.drop p)) = L.drop j := by rw [List.drop_drop, hj]
    have HNO : Hid (prmsD ((L.drop p).length + 1) (L.drop j) = none → elemD (L.drop p) = none) := Lib.hid fun h => elemD_none hE hr1 h
    have HYES : Hid (∀ ps t, prmsD ((L.drop p).length + 1) (L.drop j) = some (ps, t) → elemD (L.drop p) = if t.head? = some 93 then some ((ID, ps), t.tail) else none) := Lib.hid fun ps t h => elemD_some hE hr1 h hI2
    have hN0 : L.length - j < (L.drop p).length + 1 := by rw [List.length_drop]; omega
    obtain ⟨N0, hN⟩ : ∃ N, (L.drop p).length + 1 = N := ⟨_, rfl⟩
    rw [hN] at HNO HYES hN0
    rw [hf] at HF0
    have HID := Lib.hid hID
    clear hE hf hj hI2 hr1 hN
    go_enter Tryz.func14, Tryz.ntmps14
    go_wp2_with fail
    refine (HF0.out _).mono ?_
    rintro x w1 ⟨rfl, rfl⟩
    go_wp2
    obtain ⟨W1, hW1⟩ : ∃ W, ((w.alloc (.cells #[.string ⟨#[]⟩, .slice none 0 0] 58)).alloc (.cells #[.string ID, .slice none 0 0] 58)) = W := ⟨_, rfl⟩
    have h1 : DAt w W1 (.string ID) (.slice none 0 0) [] := by
      rw [← hW1]
      refine ⟨by simp [go_sem], by simp [go_sem], ⟨_, by simp [go_sem]; rfl⟩, ⟨_, by simp [go_sem]; rfl⟩, by simp, fun o => by simp [go_sem], fun o => by simp [go_sem], ((Below.refl _ _).alloc (Nat.le_refl _) _).alloc (by simp) _, World.ownsRow_nil _ _ _ _⟩
    rw [hW1]
    clear hW1 hID HB0 hjs2
    go_loopw [6] (fun v wr => ∃ (i : Nat) (lv : Value) (ps : List Prm) (n : Nat), i < L.length ∧ v = .int .i64 i ∧ L.length - i < n ∧ ps.length ≤ i ∧ DAt w wr (.string ID) lv ps ∧ Hid (prmsD N0 (L.drop j) = (prmsD n (L.drop i)).map fun z => (ps ++ z.1, z.2))) (fun v _ => L.length - (intOf v).toNat)
    case atStart => exact ⟨j, _, [], N0, hjl, rfl, hN0, by simp, h1, Lib.hid (by simp)⟩
    case round =>
      obtain ⟨i, lv, ps, n0, hil, rfl, hn, hpi, hE, HPR⟩ := hrel
      obtain ⟨n, rfl⟩ : ∃ n, n0 = n + 1 := ⟨n0 - 1, by omega⟩
      obtain ⟨la, lc, hlv⟩ := hE.shape
      subst hlv
      have his : i < s.size := by omega
      obtain ⟨c, hc⟩ : ∃ c : UInt8, s[i]'his = c := ⟨_, rfl⟩
      have hLi : L[i]? = some c := by rw [HG.out i his, hc]
      have hat : (((s[i]'his).toNat : Nat) : Int) = ((c.toNat : Nat) : Int) := by rw [hc]
      obtain ⟨hd1, hd2⟩ := head_at hLi
      obtain ⟨i1, hi1⟩ : ∃ i1, i + 1 = i1 := ⟨_, rfl⟩
      have hpm : ((i : Nat) : Int) + 1 = ((i1 : Nat) : Int) := by omega
      by_cases h32 : c = 32
      case neg =>
        have n32 : (((c.toNat : Nat) : Int) == 32) = false := beq_eq_false_iff_ne.2 fun h => h32 (u8_eq (n := 32) (by omega) (by omega))
        have hst : prmsD N0 (L.drop j) = some (ps, L.drop i) := by rw [HPR.out, prmsD_stop (by rw [hd2]; intro h; exact h32 (Option.some.inj h))]; simp
        have HY := Lib.hid (HYES.out _ _ hst)
        by_cases h93 : c = 93
        · have n93 : (((c.toNat : Nat) : Int) != 93) = false := by rw [h93]; rfl
          have hres : elemD (L.drop p) = some ((ID, ps), L.drop i1) := by rw [HY.out, if_pos (by rw [hd2, h93]), hd1, hi1]; rfl
          have HRES := Lib.hid hres
          have hlen : ((L.length - (L.drop i1).length : Nat) : Int) = ((i1 : Nat) : Int) := by rw [List.length_drop]; omega
          have HLEN := Lib.hid hlen
          have k0 := hE.k0
          have k1 := hE.k1
          obtain ⟨v0, y0⟩ := hE.e0
          obtain ⟨v1, y1⟩ := hE.e1
          have fz := hE.f0
          have HE := Lib.hid hE
          clear hE hres hlen hst hd1 hd2 hLi HY hc h93 h32
          go_wp2
          change bodyPost Tryz.prog Tryz.f14 (ElemDAns L p w) Exit.ret _ _
          refine bodyPost_ret (v := .tuple #[.agg #[.string ID, .slice la ps.length lc], .int .i64 i1]) (by simp [results, Tryz.results14, go_sem, y0, y1]) rfl ?_
          unfold ElemDAns
          rw [HRES.out]
          refine ⟨⟨la, lc, by rw [HLEN.out], ?_⟩, ?_⟩
          · exact kept_set (kept_set HE.out.own _ _ (fun g hg => by have := (HE.out.own.lt g hg).1; simp; omega)) _ _ (fun g hg => by have := (HE.out.own.lt g hg).1; simp; omega)
          · exact ((HE.out.b.setCell (p := ⟨w.heap.size, 0, none⟩) (Nat.le_refl _) _).setCell (p := ⟨w.heap.size, 1, none⟩) (Nat.le_refl _) _)
        · have n93 : (((c.toNat : Nat) : Int) != 93) = true := by rw [bne, beq_eq_false_iff_ne.2 fun h => h93 (u8_eq (n := 93) (by omega) (by omega))]; rfl
          have HNL := Lib.hid (show elemD (L.drop p) = none by rw [HY.out, if_neg (by rw [hd2]; intro h; exact h93 (Option.some.inj h))])
          obtain ⟨v0, y0⟩ := hE.e0
          obtain ⟨v1, y1⟩ := hE.e1
          have fz := hE.f0
          have HBE := Lib.hid hE.b
          clear hE hst hd1 hd2 hLi HY hc h93 h32
          go_wp2
          change bodyPost Tryz.prog Tryz.f14 (ElemDAns L p w) Exit.ret _ _
          refine bodyPost_ret (v := .tuple #[.agg #[.string ⟨#[]⟩, .slice none 0 0], .int .i64 (-1)]) (by simp [results, Tryz.results14, go_sem, y0, y1]) rfl (elemD_no HNL.out ?_)
          exact ((HBE.out.setCell (p := ⟨w.heap.size, 0, none⟩) (Nat.le_refl _) _).setCell (p := ⟨w.heap.size, 1, none⟩) (Nat.le_refl _) _)
      case pos =>
        subst h32
        rw [show (((32 : UInt8).toNat : Nat) : Int) = 32 from rfl] at hat
        obtain ⟨q, hq⟩ : ∃ q, L.drop i1 = q := ⟨_, rfl⟩
        have hq2 : L.drop i = 32 :: q := by rw [hd1, hi1, hq]
        have hql : q.length = L.length - i1 := by rw [← hq, List.length_drop]
        have HF1 := Lib.hid (fun W => HF.out i1 61 61 W)
        have hfl := findL_one L i1 61
        rw [hq] at hfl
        clear hd1 hd2 hc
        have hst : ∀ x : Option (List Prm × List UInt8), prmsD (n + 1) (L.drop i) = x → prmsD N0 (L.drop j) = x.map fun z => (ps ++ z.1, z.2) := fun x h => by rw [HPR.out, h]
        by_cases hA : atB q 61 < q.length
        case neg =>
          rw [if_neg hA] at hfl
          have HNL := Lib.hid (HNO.out (by rw [hst _ (prmsD_no1 hq2 (fun h => hA h.1))]; rfl))
          rw [hfl] at HF1
          obtain ⟨v0, y0⟩ := hE.e0
          obtain ⟨v1, y1⟩ := hE.e1
          have fz := hE.f0
          have HBE := Lib.hid hE.b
          clear hE hfl hA hst hql hq hq2
          go_wp2_with fail
          refine (HF1.out _).mono ?_
          rintro x w2 ⟨rfl, rfl⟩
          go_wp2
          change bodyPost Tryz.prog Tryz.f14 (ElemDAns L p w) Exit.ret _ _
          refine bodyPost_ret (v := .tuple #[.agg #[.string ⟨#[]⟩, .slice none 0 0], .int .i64 (-1)]) (by simp [results, Tryz.results14, go_sem, y0, y1]) rfl (elemD_no HNL.out ?_)
          exact ((HBE.out.setCell (p := ⟨w.heap.size, 0, none⟩) (Nat.le_refl _) _).setCell (p := ⟨w.heap.size, 1, none⟩) (Nat.le_refl _) _)
        case pos =>
          obtain ⟨e, he⟩ : ∃ e, i1 + atB q 61 = e := ⟨_, rfl⟩
          rw [if_pos hA, he] at hfl
          rw [hfl] at HF1
          have hel : e < L.length := by omega
          have hes : e < s.size := by omega
          obtain ⟨e1, he1⟩ : ∃ x, e + 1 = x := ⟨_, rfl⟩
          obtain ⟨e2, he2⟩ : ∃ x, e + 2 = x := ⟨_, rfl⟩
          have hpe : ((e : Nat) : Int) + 1 = ((e1 : Nat) : Int) := by omega
          have hpe2 : ((e : Nat) : Int) + 2 = ((e2 : Nat) : Int) := by omega
          have hdq : ∀ k, q.drop (atB q 61 + k) = L.drop (e + k) := fun k => by rw [← hq, List.drop_drop]; congr 1; rw [hq]; omega
          have hie : i1 ≤ e := by omega
          by_cases hB : e1 < s.size
          case neg =>
            have hz : L.drop e1 = [] := List.drop_eq_nil_of_le (by omega)
            have HNL := Lib.hid (HNO.out (by rw [hst _ (prmsD_no1 hq2 (fun h => by have := h.2; rw [hdq, he1, hz] at this; cases this))]; rfl))
            obtain ⟨v0, y0⟩ := hE.e0
            obtain ⟨v1, y1⟩ := hE.e1
            have fz := hE.f0
            have HBE := Lib.hid hE.b
            clear hE hfl hA hst hql hq hq2 hdq hz he
            go_wp2_with fail
            refine (HF1.out _).mono ?_
            rintro x w2 ⟨rfl, rfl⟩
            go_wp2
            change bodyPost Tryz.prog Tryz.f14 (ElemDAns L p w) Exit.ret _ _
            refine bodyPost_ret (v := .tuple #[.agg #[.string ⟨#[]⟩, .slice none 0 0], .int .i64 (-1)]) (by simp [results, Tryz.results14, go_sem, y0, y1]) rfl (elemD_no HNL.out ?_)
            exact ((HBE.out.setCell (p := ⟨w.heap.size, 0, none⟩) (Nat.le_refl _) _).setCell (p := ⟨w.heap.size, 1, none⟩) (Nat.le_refl _) _)
          case pos =>
            obtain ⟨d, hd⟩ : ∃ d : UInt8, s[e1]'hB = d := ⟨_, rfl⟩
            have hLe : L[e1]? = some d := by rw [HG.out e1 hB, hd]
            have hat2 : (((s[e1]'hB).toNat : Nat) : Int) = ((d.toNat : Nat) : Int) := by rw [hd]
            obtain ⟨hg1, hg2⟩ := head_at hLe
            by_cases hC : d = 34
            case neg =>
              have n34 : (((d.toNat : Nat) : Int) != 34) = true := by rw [bne, beq_eq_false_iff_ne.2 fun h => hC (u8_eq (n := 34) (by omega) (by omega))]; rfl
              have HNL := Lib.hid (HNO.out (by rw [hst _ (prmsD_no1 hq2 (fun h => by have := h.2; rw [hdq, he1, hg2] at this; exact hC (Option.some.inj this)))]; rfl))
              obtain ⟨v0, y0⟩ := hE.e0
              obtain ⟨v1, y1⟩ := hE.e1
              have fz := hE.f0
              have HBE := Lib.hid hE.b
              clear hE hfl hA hst hql hq hq2 hdq hg1 hg2 hLe hC he hd
              go_wp2_with fail
              refine (HF1.out _).mono ?_
              rintro x w2 ⟨rfl, rfl⟩
              go_wp2
              change bodyPost Tryz.prog Tryz.f14 (ElemDAns L p w) Exit.ret _ _
              refine bodyPost_ret (v := .tuple #[.agg #[.string ⟨#[]⟩, .slice none 0 0], .int .i64 (-1)]) (by simp [results, Tryz.results14, go_sem, y0, y1]) rfl (elemD_no HNL.out ?_)
              exact ((HBE.out.setCell (p := ⟨w.heap.size, 0, none⟩) (Nat.le_refl _) _).setCell (p := ⟨w.heap.size, 1, none⟩) (Nat.le_refl _) _)
            case pos =>
              subst hC
              rw [show (((34 : UInt8).toNat : Nat) : Int) = 34 from rfl] at hat2
              have n34 : ((34 : Int) != 34) = false := rfl
              have hc1 : atB q 61 < q.length ∧ (q.drop (atB q 61 + 1)).head? = some 34 := ⟨hA, by rw [hdq, he1, hg2]⟩
              have he2s : e2 ≤ s.size := by omega
              have HT2 := Lib.hid (fun W => HTK.out e2 W he2s)
              have hq4 : q.drop (atB q 61 + 2) = L.drop e2 := by rw [hdq, he2]
              clear hg1 hg2 hLe hd hdq
              cases htv : takeV (L.drop e2) with
              | none =>
                have HNL := Lib.hid (HNO.out (by rw [hst _ (prmsD_no2 hq2 hc1 (by rw [hq4, htv]))]; rfl))
                rw [htv] at HT2
                have HE := Lib.hid hE
                clear hE hfl hA hst hql hq hq2 hq4 hc1 he htv
                go_wp2_with fail
                refine (HF1.out _).mono ?_
                rintro x w2 ⟨rfl, rfl⟩
                go_wp2_with fail
                refine (HT2.out _).mono ?_
                rintro x w7 ⟨rfl, hb7⟩
                have hE := HE.out.below hb7
                clear HE hb7
                simp only [ends2]
                obtain ⟨v0, y0⟩ := hE.e0
                obtain ⟨v1, y1⟩ := hE.e1
                have fz := hE.f0
                have HBE := Lib.hid hE.b
                clear hE
                go_wp2
                change bodyPost Tryz.prog Tryz.f14 (ElemDAns L p w) Exit.ret _ _
                refine bodyPost_ret (v := .tuple #[.agg #[.string ⟨#[]⟩, .slice none 0 0], .int .i64 (-1)]) (by simp [results, Tryz.results14, go_sem, y0, y1]) rfl (elemD_no HNL.out ?_)
                exact ((HBE.out.setCell (p := ⟨w.heap.size, 0, none⟩) (Nat.le_refl _) _).setCell (p := ⟨w.heap.size, 1, none⟩) (Nat.le_refl _) _)
              | some pt =>
                obtain ⟨v, t⟩ := pt
                rw [htv] at HT2
                obtain ⟨hdt, hlt⟩ := drop_suffix htv
                obtain ⟨k, hk⟩ : ∃ k, s.size - t.length = k := ⟨_, rfl⟩
                have HE := Lib.hid hE
                by_cases ht : t = []
                case pos =>
                  subst ht
                  have HNL := Lib.hid (HNO.out (by rw [hst _ (prmsD_no3 hq2 hc1 (by rw [hq4, htv]))]; rfl))
                  have hk2 : k = s.size := by simpa using hk.symm
                  simp only [ends2, hk, hk2] at HT2
                  clear hE hfl hA hst hql hq hq2 hq4 hc1 he htv hdt hlt hk
                  go_wp2_with fail
                  refine (HF1.out _).mono ?_
                  rintro x w2 ⟨rfl, rfl⟩
                  go_wp2_with fail
                  refine (HT2.out _).mono ?_
                  rintro x w7 ⟨rfl, hb7⟩
                  have hE := HE.out.below hb7
                  clear HE hb7
                  obtain ⟨v0, y0⟩ := hE.e0
                  obtain ⟨v1, y1⟩ := hE.e1
                  have fz := hE.f0
                  have HBE := Lib.hid hE.b
                  clear hE
                  go_wp2
                  change bodyPost Tryz.prog Tryz.f14 (ElemDAns L p w) Exit.ret _ _
                  refine bodyPost_ret (v := .tuple #[.agg #[.string ⟨#[]⟩, .slice none 0 0], .int .i64 (-1)]) (by simp [results, Tryz.results14, go_sem, y0, y1]) rfl (elemD_no HNL.out ?_)
                  exact ((HBE.out.setCell (p := ⟨w.heap.size, 0, none⟩) (Nat.le_refl _) _).setCell (p := ⟨w.heap.size, 1, none⟩) (Nat.le_refl _) _)
                case neg =>
                  have HYS := Lib.hid (fun z hz => (hst z hz : _))
                  have HY0 := Lib.hid (prmsD_yes (n := n) hq2 hc1 (by rw [hq4, htv]) ht)
                  obtain ⟨NM, hNM⟩ : ∃ x, s.extract i1 e = x := ⟨_, rfl⟩
                  have HNM := Lib.hid (show bytes (q.take (atB q 61)) = NM by rw [← hNM, HX.out, hq, show e - i1 = atB q 61 by omega])
                  obtain ⟨VB, hVB⟩ : ∃ x, bytes v = x := ⟨_, rfl⟩
                  have HDT := Lib.hid hdt
                  have hkl : k < s.size := by have := List.length_pos_iff.2 ht; omega
                  have hke : e2 ≤ k := by omega
                  simp only [ends2, hk, hVB] at HT2
                  clear hE hfl hA hst hql hq hq2 hq4 hc1 he htv hdt
                  go_wp2_with fail
                  refine (HF1.out _).mono ?_
                  rintro x w2 ⟨rfl, rfl⟩
                  go_wp2_with fail
                  refine (HT2.out _).mono ?_
                  rintro x w7 ⟨rfl, hb7⟩
                  have h7 := HE.out.below hb7
                  clear HE hb7
                  have hkt : L.drop k = t := by rw [← hk, ← hln]; exact HDT.out
                  have HNEW : Hid (prmsD N0 (L.drop j) = (prmsD n (L.drop k)).map fun z => ((ps ++ [(NM, VB)]) ++ z.1, z.2)) := Lib.hid (by rw [HPR.out, HY0.out, HNM.out, hVB, hkt, Option.map_map]; congr 1; funext z; simp)
                  clear hkt
                  have hsl : ∀ W, (Instr.slice 9 (.string s) (some (.int .i64 ((i1 : Nat) : Int))) (some (.int .i64 ((e : Nat) : Int))) none).run Tryz.prog W = .ok (.string NM) W := fun W => by
                    rw [run_slice_string W 9 s .i64 .i64 _ _ Tryz.underlying9 (by omega) (by omega) (by omega), ← hNM, Int.toNat_natCast, Int.toNat_natCast]
                  have hw1 : IntKind.i64.wrap ((i1 : Nat) : Int) = ((i1 : Nat) : Int) := IntWalk.i64_in _ (by omega)
                  go_wp2
                  refine wp_region_held_drew (S := fun _ => True) (by kernel_rfl) trivial (fun _ => ?_)
                  refine wpAnyH_take (i := 0) (v := ?_) rfl (by kernel_rfl) (by kernel_rfl) (by kernel_rfl) (fun _ _ _ h => h) (Or.inl ⟨by rfl, ?_⟩) (by assumption) ?_
                  rotate_left
                  · intro W hSw; (try dsimp only at hSw); go_simp; first | done | with_reducible rfl
                  try simp only [Act.put, List.getElem_toArray, List.getElem_cons_zero, List.setIfInBounds_toArray, List.set_cons_zero, List.set_cons_succ]
                  refine wpAnyH_take (i := 2) (v := ?_) rfl (by kernel_rfl) (by kernel_rfl) (by kernel_rfl) (fun _ _ _ h => h) (Or.inl ⟨by rfl, ?_⟩) (by assumption) ?_
                  rotate_left
                  · intro W hSw; (try dsimp only at hSw); go_simp; first | done | with_reducible rfl
                  try simp only [Act.put, List.getElem_toArray, List.getElem_cons_zero, List.getElem_cons_succ, List.setIfInBounds_toArray, List.set_cons_zero, List.set_cons_succ]
                  refine wpAnyH_take (i := 3) (v := ?_) rfl (by kernel_rfl) (by kernel_rfl) (by kernel_rfl) (fun _ _ _ h => h) (Or.inl ⟨by rfl, ?_⟩) (by assumption) ?_
                  rotate_left
                  · intro W hSw; (try dsimp only at hSw); go_simp; first | done | with_reducible rfl
                  try simp only [Act.put, List.getElem_toArray, List.getElem_cons_zero, List.getElem_cons_succ, List.setIfInBounds_toArray, List.set_cons_zero, List.set_cons_succ]
                  refine wpAnyH_take (i := 4) (v := ?_) rfl (by kernel_rfl) (by kernel_rfl) (by kernel_rfl) (fun _ _ _ h => h) (Or.inl ⟨by rfl, ?_⟩) (by assumption) ?_
                  rotate_left
                  · intro W hSw; (try dsimp only at hSw); go_simp; first | done | with_reducible rfl
                  try simp only [Act.put, List.getElem_toArray, List.getElem_cons_zero, List.getElem_cons_succ, List.setIfInBounds_toArray, List.set_cons_zero, List.set_cons_succ]
                  refine wpAnyH_take (i := 5) (v := ?_) rfl (by kernel_rfl) (by kernel_rfl) (by kernel_rfl) (fun _ _ _ h => h) (Or.inl ⟨by rfl, ?_⟩) (by assumption) ?_
                  rotate_left
                  · intro W hSw; (try dsimp only at hSw); go_simp; first | done | with_reducible rfl
                  try simp only [Act.put, List.getElem_toArray, List.getElem_cons_zero, List.getElem_cons_succ, List.setIfInBounds_toArray, List.set_cons_zero, List.set_cons_succ]
                  refine wpAnyH_take (i := 6) (v := ?_) rfl (by kernel_rfl) (by kernel_rfl) (by kernel_rfl) (fun _ _ _ h => h) (Or.inl ⟨by rfl, ?_⟩) (by assumption) ?_
                  rotate_left
                  · intro W hSw; (try dsimp only at hSw); go_simp; first | done | with_reducible rfl
                  try simp only [Act.put, List.getElem_toArray, List.getElem_cons_zero, List.getElem_cons_succ, List.setIfInBounds_toArray, List.set_cons_zero, List.set_cons_succ]
                  refine wpAnyH_take (i := 7) (v := ?_) rfl (by kernel_rfl) (by kernel_rfl) (by kernel_rfl) (fun _ _ _ h => h) (Or.inl ⟨by rfl, ?_⟩) (by assumption) ?_
                  rotate_left
                  · intro W hSw; (try dsimp only at hSw); go_simp; first | done | with_reducible rfl
                  try simp only [Act.put, List.getElem_toArray, List.getElem_cons_zero, List.getElem_cons_succ, List.setIfInBounds_toArray, List.set_cons_zero, List.set_cons_succ]
                  refine wpAnyH_take (i := 8) (v := ?_) rfl (by kernel_rfl) (by kernel_rfl) (by kernel_rfl) (fun _ _ _ h => h) (Or.inl ⟨by rfl, ?_⟩) (by assumption) ?_
                  rotate_left
                  · intro W hSw; (try dsimp only at hSw); go_simp; first | done | with_reducible rfl
                  try simp only [Act.put, List.getElem_toArray, List.getElem_cons_zero, List.getElem_cons_succ, List.setIfInBounds_toArray, List.set_cons_zero, List.set_cons_succ]
                  have HH2 := Lib.hid (DAt.below h7 (W' := (w7.alloc (.cells #[.string NM, .string VB] 74)).drew) (((Below.refl _ _).alloc (Nat.le_refl _) _).drew))
                  have k7 : w7.drew.cell? ⟨w.heap.size + 1, 1, none⟩ = some (.slice la ps.length lc) := by simpa [go_sem] using h7.k1
                  have k8 := HH2.out.k1
                  clear h7
                  refine wpAnyH_ready (rs := [1, 9]) (by kernel_rfl) (by simp) ?_
                  refine AllReadyH.cons rfl (fun K hK => ?_) (AllReadyH.cons rfl (fun K hK => ?_) AllReadyH.nil)
                  · go_simp
                    refine Shut.out hK _ _ trivial (fun _ => ?_)
                    clear hK K
                    refine wpAnyH_ready (rs := [9]) (by kernel_rfl) (by simp) ?_
                    refine AllReadyH.cons rfl (fun K hK => ?_) AllReadyH.nil
                    go_simp
                    refine Shut.out hK _ _ trivial (fun _ => ?_)
                    clear hK K
                    refine wpAnyH_ready (rs := [10]) (by kernel_rfl) (by simp) ?_
                    refine AllReadyH.cons rfl (fun K hK => ?_) AllReadyH.nil
                    rw [if_pos (by rfl)]
                    refine wp_append_own _ _ _ 56 rfl (w.heap.size + 2) 74 i0 (.agg #[.string ⟨#[]⟩, .string ⟨#[]⟩]) 2 32 Tryz.underlying56 HI.out HI0.out HI1.out HI2.out rfl (by decide) (.slice la ps.length lc) ps.length _ rfl HH2.out.own ⟨w7.heap.size, 0, none⟩ 1 1 [.string NM, .string VB] rfl rfl (cells_new w7.drew #[.string NM, .string VB] 74) (by simp [Value.oneCell']) (by unfold maxLen; omega) (by omega) (by have := HH2.out.z; omega) ?_
                    intro v2 w2 hown2 hgrow2 _
                    obtain ⟨a2, c2, hv2⟩ := slice_of hown2
                    subst hv2
                    try simp only [Act.put, List.getElem_toArray, List.getElem_cons_zero, List.getElem_cons_succ, List.setIfInBounds_toArray, List.set_cons_zero, List.set_cons_succ]
                    have hpush := HH2.out.push hgrow2 (p := (NM, VB)) hown2
                    obtain ⟨u2, hu2, hf2⟩ := HH2.out.kept hgrow2
                    have HPUSH := Lib.hid hpush
                    clear hpush hown2 hgrow2
                    refine Shut.out hK _ _ trivial (fun _ => ?_)
                    clear hK K
                    refine wpAnyH_take (i := 11) (v := ?_) rfl (by kernel_rfl) (by kernel_rfl) (by kernel_rfl) (fun _ _ _ h => h) (Or.inl ⟨by rfl, ?_⟩) (by assumption) ?_
                    rotate_left
                    · intro W hSw; (try dsimp only at hSw); go_simp; first | done | with_reducible rfl
                    try simp only [Act.put, List.getElem_toArray, List.getElem_cons_zero, List.getElem_cons_succ, List.setIfInBounds_toArray, List.set_cons_zero, List.set_cons_succ]
                    refine wpAnyH_ready (rs := [12]) (by kernel_rfl) (by simp) ?_
                    refine AllReadyH.cons rfl (fun K hK => ?_) AllReadyH.nil
                    go_simp
                    refine Shut.out hK _ _ trivial (fun _ => ?_)
                    clear hK K
                    refine wpAnyH_done (by kernel_rfl) ?_ _
                    go_wp2
                    refine ⟨?_, ?_⟩
                    · exact ⟨k, .slice a2 (ps.length + 1) c2, ps ++ [(NM, VB)], n, by omega, rfl, by omega, by simp; omega, HPUSH.out, HNEW⟩
                    · simp [intOf]; omega
                  · go_simp
                    refine Shut.out hK _ _ trivial (fun _ => ?_)
                    clear hK K
                    refine wpAnyH_ready (rs := [1]) (by kernel_rfl) (by simp) ?_
                    refine AllReadyH.cons rfl (fun K hK => ?_) AllReadyH.nil
                    go_simp
                    refine Shut.out hK _ _ trivial (fun _ => ?_)
                    clear hK K
                    refine wpAnyH_ready (rs := [10]) (by kernel_rfl) (by simp) ?_
                    refine AllReadyH.cons rfl (fun K hK => ?_) AllReadyH.nil
                    rw [if_pos (by rfl)]
                    refine wp_append_own _ _ _ 56 rfl (w.heap.size + 2) 74 i0 (.agg #[.string ⟨#[]⟩, .string ⟨#[]⟩]) 2 32 Tryz.underlying56 HI.out HI0.out HI1.out HI2.out rfl (by decide) (.slice la ps.length lc) ps.length _ rfl HH2.out.own ⟨w7.heap.size, 0, none⟩ 1 1 [.string NM, .string VB] rfl rfl (cells_new w7.drew #[.string NM, .string VB] 74) (by simp [Value.oneCell']) (by unfold maxLen; omega) (by omega) (by have := HH2.out.z; omega) ?_
                    intro v2 w2 hown2 hgrow2 _
                    obtain ⟨a2, c2, hv2⟩ := slice_of hown2
                    subst hv2
                    try simp only [Act.put, List.getElem_toArray, List.getElem_cons_zero, List.getElem_cons_succ, List.setIfInBounds_toArray, List.set_cons_zero, List.set_cons_succ]
                    have hpush := HH2.out.push hgrow2 (p := (NM, VB)) hown2
                    obtain ⟨u2, hu2, hf2⟩ := HH2.out.kept hgrow2
                    have HPUSH := Lib.hid hpush
                    clear hpush hown2 hgrow2
                    refine Shut.out hK _ _ trivial (fun _ => ?_)
                    clear hK K
                    refine wpAnyH_take (i := 11) (v := ?_) rfl (by kernel_rfl) (by kernel_rfl) (by kernel_rfl) (fun _ _ _ h => h) (Or.inl ⟨by rfl, ?_⟩) (by assumption) ?_
                    rotate_left
                    · intro W hSw; (try dsimp only at hSw); go_simp; first | done | with_reducible rfl
                    try simp only [Act.put, List.getElem_toArray, List.getElem_cons_zero, List.getElem_cons_succ, List.setIfInBounds_toArray, List.set_cons_zero, List.set_cons_succ]
                    refine wpAnyH_ready (rs := [12]) (by kernel_rfl) (by simp) ?_
                    refine AllReadyH.cons rfl (fun K hK => ?_) AllReadyH.nil
                    go_simp
                    refine Shut.out hK _ _ trivial (fun _ => ?_)
                    clear hK K
                    refine wpAnyH_done (by kernel_rfl) ?_ _
                    go_wp2
                    refine ⟨?_, ?_⟩
                    · exact ⟨k, .slice a2 (ps.length + 1) c2, ps ++ [(NM, VB)], n, by omega, rfl, by omega, by simp; omega, HPUSH.out, HNEW⟩
                    · simp [intOf]; omega
end Go.Proofs.YtmmghppjhmdikaaGreatDoor
