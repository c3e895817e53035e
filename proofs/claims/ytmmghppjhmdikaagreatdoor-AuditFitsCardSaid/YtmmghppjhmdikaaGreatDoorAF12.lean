/- The texts Until, Four1, PAt, one behind the other. -/
import Derived.Test.YtmmghppjhmdikaaGreatDoorAF7
/- What the two closures of sysl.Parse answer that take what is next off a text, and what they leave of its two variables. -/
namespace Go.Proofs.YtmmghppjhmdikaaGreatDoor
open Go.ChangeShapes Go.WideShapes Go.ChangeAt Go.RowKit

/-- The world in which Parse works: its answer, its event, what is left, whether all fits, the closure that takes a part. -/
abbrev PW (w : World) (o0 o1 : Obj) (r : List UInt8) (f : Bool) : World :=
  ((((w.alloc o0).alloc o1).alloc (.cells #[.string (bytes r)] 9)).alloc (.cells #[.bool f] 4)).alloc (.cells #[.func (.func 28) #[] #[.pointer (some ⟨w.heap.size + 2, 0, none⟩), .pointer (some ⟨w.heap.size + 3, 0, none⟩)]] 80)
abbrev St := List UInt8 × Bool
def untilL (sep : List UInt8) (s : St) : List UInt8 × St := ((Lib.cut s.1 sep).1, (Lib.cut s.1 sep).2.1, s.2 && (Lib.cut s.1 sep).2.2)
def toldL (s : St) : List UInt8 × St :=
  (if (untilL [32] s).1 = [45] then [] else (untilL [32] s).1, (untilL [32] s).2.1, (untilL [32] s).2.2 && decide ((untilL [32] s).1 ≠ []))
/-- The library's variable MaxLen holds some int. -/
def Max (w : World) : Prop := 2 < w.heap.size ∧ ∃ m : Int, w.cell? ⟨2, 0, none⟩ = some (.int .i64 m)
theorem Max.below {w w' : World} (h : Max w) (hb : Below w.heap.size w w') : Max w' := by
  obtain ⟨h1, m, h2⟩ := h
  exact ⟨Nat.lt_of_lt_of_le h1 hb.size, m, (hb.cell (p := ⟨2, 0, none⟩) h1).trans h2⟩
theorem drewN_below (w : World) (n : Nat) : Below w.heap.size w (w.drewN n) := ⟨rfl, rfl, rfl, Nat.le_refl _, fun _ _ => rfl⟩
theorem pw_below (w : World) (o0 o1 : Obj) (r : List UInt8) (f : Bool) (c : Nat) : Below w.heap.size w ((PW w o0 o1 r f).drewN c) :=
  (((((((Below.refl _ _).alloc (Nat.le_refl _) _).alloc (by simp) _).alloc (by simp <;> omega) _).alloc (by simp <;> omega) _).alloc (by simp <;> omega) _)).trans ((drewN_below _ _).mono (by simp <;> omega))
set_option maxHeartbeats 1000000 in
set_option maxRecDepth 100000 in
theorem until_any (sep : ByteArray) (w : World) (o0 o1 : Obj) (r : List UInt8) (f : Bool) (c : Nat) (hm : Max w) (hr : r.length ≤ 16777216) :
    Calls Tryz.prog 28 #[.string sep, .pointer (some ⟨w.heap.size + 2, 0, none⟩), .pointer (some ⟨w.heap.size + 3, 0, none⟩)] ((PW w o0 o1 r f).drewN c)
      fun e w' => e = .returned (.string (bytes (untilL sep.data.toList (r, f)).1)) ∧ ∃ c', w' = (PW w o0 o1 (untilL sep.data.toList (r, f)).2.1 (untilL sep.data.toList (r, f)).2.2).drewN c' := by
  have hsd : ∀ (X : World) (n : Nat) (p : Addr) (v : Value), (X.drewN n).setCell p v = (X.setCell p v).drewN n := fun _ _ _ _ => rfl
  have hm2 := hm.below (pw_below w o0 o1 r f c)
  obtain ⟨_, m, hmc⟩ := hm2
  have HC := Lib.hid (Tryz.strings_Cut (bytes r) sep m ((PW w o0 o1 r f).drewN c) (by rw [bytes_size]; omega) hmc)
  unfold untilL
  simp only
  rw [bytes_list] at HC
  obtain ⟨p, hp⟩ : ∃ p, Lib.cut r sep.data.toList = p := ⟨_, rfl⟩
  rw [hp] at HC ⊢
  obtain ⟨p1, p2, p3⟩ := p
  simp only at HC ⊢
  clear hp hmc
  go_enter Tryz.func28, Tryz.ntmps28
  go_wp2_with fail
  refine HC.out.mono ?_
  rintro e w' ⟨rfl, k, rfl⟩
  cases f with
  | false =>
    go_wp2
    go_ret
    exact ⟨rfl, _, rfl⟩
  | true =>
    go_wp2
    go_ret
    exact ⟨rfl, _, rfl⟩
theorem until_t {sepl : List UInt8} {sep : ByteArray} {w : World} {o0 o1 : Obj} {r : List UInt8} {f : Bool} {c : Nat} {p r' : List UInt8} {f' : Bool} (h : untilL sepl (r, f) = (p, r', f')) (hsep : sep.data.toList = sepl) (hm : Max w) (hr : r.length ≤ 16777216) :
    Calls Tryz.prog 28 #[.string sep, .pointer (some ⟨w.heap.size + 1 + 1, 0, none⟩), .pointer (some ⟨w.heap.size + 1 + 1 + 1, 0, none⟩)] ((PW w o0 o1 r f).drewN c)
      fun e w' => e = .returned (.string (bytes p)) ∧ ∃ c', w' = (PW w o0 o1 r' f').drewN c' := by
  have := until_any sep w o0 o1 r f c hm hr
  rw [hsep, h] at this
  exact this
set_option maxHeartbeats 1000000 in
set_option maxRecDepth 100000 in
theorem told_any (w : World) (o0 o1 : Obj) (r : List UInt8) (f : Bool) (c : Nat) (hm : Max w) (hr : r.length ≤ 16777216) :
    Calls Tryz.prog 30 #[.pointer (some ⟨w.heap.size + 4, 0, none⟩), .pointer (some ⟨w.heap.size + 3, 0, none⟩)] ((PW w o0 o1 r f).drewN c)
      fun e w' => e = .returned (.string (bytes (toldL (r, f)).1)) ∧ ∃ c', w' = (PW w o0 o1 (toldL (r, f)).2.1 (toldL (r, f)).2.2).drewN c' := by
  have hsd : ∀ (X : World) (n : Nat) (p : Addr) (v : Value), (X.drewN n).setCell p v = (X.setCell p v).drewN n := fun _ _ _ _ => rfl
  unfold toldL
  obtain ⟨p, r', f', hu⟩ : ∃ p r' f', untilL [32] (r, f) = (p, r', f') := ⟨_, _, _, rfl⟩
  have HU := Lib.hid (until_t (w := w) (o0 := o0) (o1 := o1) (c := c) (sep := ⟨#[32]⟩) hu rfl hm hr)
  rw [hu]
  simp only
  clear hu
  have hq1 : ((bytes p).toList == [45]) = decide (p = [45]) := by rw [Lib.toList_data, bytes_list, Bool.eq_iff_iff, beq_iff_eq, decide_eq_true_iff]
  have hq2 : (bytes p).toList.isEmpty = decide (p = []) := by rw [Lib.toList_data, bytes_list]; cases p <;> simp
  by_cases h1 : p = []
  · have e1 : decide (p ≠ []) = false := decide_eq_false (fun h => h h1)
    have e2 : p ≠ [45] := by rw [h1]; decide
    rw [e1, if_neg e2]
    rw [decide_eq_false e2] at hq1
    rw [decide_eq_true h1] at hq2
    clear e1 e2 h1
    cases f' with
    | false =>
      go_enter Tryz.func30, Tryz.ntmps30
      go_wp2_with fail
      refine HU.out.mono ?_
      rintro e w' ⟨rfl, k, rfl⟩
      go_wp2
      go_ret
      exact ⟨rfl, _, rfl⟩
    | true =>
      go_enter Tryz.func30, Tryz.ntmps30
      go_wp2_with fail
      refine HU.out.mono ?_
      rintro e w' ⟨rfl, k, rfl⟩
      go_wp2
      go_ret
      exact ⟨rfl, _, rfl⟩
  · have e1 : decide (p ≠ []) = true := decide_eq_true h1
    rw [e1]
    rw [decide_eq_false h1] at hq2
    clear e1 h1
    by_cases h2 : p = [45]
    · rw [decide_eq_true h2] at hq1
      rw [if_pos h2]
      clear h2
      cases f' with
      | false =>
        go_enter Tryz.func30, Tryz.ntmps30
        go_wp2_with fail
        refine HU.out.mono ?_
        rintro e w' ⟨rfl, k, rfl⟩
        go_wp2
        go_ret
        exact ⟨rfl, _, rfl⟩
      | true =>
        go_enter Tryz.func30, Tryz.ntmps30
        go_wp2_with fail
        refine HU.out.mono ?_
        rintro e w' ⟨rfl, k, rfl⟩
        go_wp2
        go_ret
        exact ⟨rfl, _, rfl⟩
    · rw [decide_eq_false h2] at hq1
      rw [if_neg h2]
      clear h2
      cases f' with
      | false =>
        go_enter Tryz.func30, Tryz.ntmps30
        go_wp2_with fail
        refine HU.out.mono ?_
        rintro e w' ⟨rfl, k, rfl⟩
        go_wp2
        go_ret
        exact ⟨rfl, _, rfl⟩
      | true =>
        go_enter Tryz.func30, Tryz.ntmps30
        go_wp2_with fail
        refine HU.out.mono ?_
        rintro e w' ⟨rfl, k, rfl⟩
        go_wp2
        go_ret
        exact ⟨rfl, _, rfl⟩
theorem told_t {w : World} {o0 o1 : Obj} {r : List UInt8} {f : Bool} {c : Nat} {p r' : List UInt8} {f' : Bool} (h : toldL (r, f) = (p, r', f')) (hm : Max w) (hr : r.length ≤ 16777216) :
    Calls Tryz.prog 30 #[.pointer (some ⟨w.heap.size + 1 + 1 + 1 + 1, 0, none⟩), .pointer (some ⟨w.heap.size + 1 + 1 + 1, 0, none⟩)] ((PW w o0 o1 r f).drewN c)
      fun e w' => e = .returned (.string (bytes p)) ∧ ∃ c', w' = (PW w o0 o1 r' f').drewN c' := by
  have := told_any w o0 o1 r f c hm hr
  rw [h] at this
  exact this
end Go.Proofs.YtmmghppjhmdikaaGreatDoor
/- What four of sysl.Parse's callees answer at the document's example. -/
namespace Go.Proofs.YtmmghppjhmdikaaGreatDoor
open Go.ChangeShapes Go.WideShapes Go.ChangeAt Go.RowKit

theorem moment_none (w : World) : Calls Tryz.prog 32 #[.string (bytes [])] w fun e w' => e = .returned (.tuple #[.bool false, .int .i64 0, .bool true]) ∧ w' = w := by
  have hq : (bytes []).toList.isEmpty = true := by rw [Lib.toList_data]; rfl
  go_enter Tryz.func32, Tryz.ntmps32
  go_wp2
  refine bodyPost_ret (v := .tuple #[.bool false, .int .i64 0, .bool true]) (by simp [results, Tryz.results32, go_sem]) rfl ⟨rfl, rfl⟩
theorem elements_none (r : List UInt8) (w : World) : Calls Tryz.prog 33 #[.string (bytes (45 :: r))] w fun e w' => e = .returned (.tuple #[.slice none 0 0, .string (bytes r), .bool true]) ∧ w' = w := by
  have h := Tryz.strings_CutPrefix (bytes (45 :: r)) ⟨#[45]⟩ w
  have h1 : Lib.hasPrefix (45 :: r) [45] = true := by simp [Lib.hasPrefix, List.isPrefixOf]
  have h2 : Lib.trimPrefix (45 :: r) [45] = r := by unfold Lib.trimPrefix; rw [h1]; simp
  rw [bytes_list, show (⟨#[45]⟩ : ByteArray).data.toList = [45] from rfl, h1, h2] at h
  have H := Lib.hid h
  clear h h1 h2
  go_enter Tryz.func33, Tryz.ntmps33
  go_wp2_with fail
  refine H.out.mono ?_
  rintro e w' ⟨rfl, rfl⟩
  go_wp2
  refine bodyPost_ret (v := .tuple #[.slice none 0 0, .string (bytes r), .bool true]) (by simp [results, Tryz.results33, go_sem, bytes]) rfl ⟨rfl, rfl⟩
theorem behind_hi (w : World) : Calls Tryz.prog 34 #[.string (bytes [32, 104, 105])] w fun e w' => e = .returned (.tuple #[.string (bytes [104, 105]), .bool true]) ∧ w' = w := by
  have h := Tryz.strings_CutPrefix (bytes [32, 104, 105]) ⟨#[32]⟩ w
  rw [bytes_list, show (⟨#[32]⟩ : ByteArray).data.toList = [32] from rfl, show Lib.hasPrefix [32, 104, 105] [32] = true from rfl, show Lib.trimPrefix [32, 104, 105] [32] = [104, 105] from rfl] at h
  have k := Tryz.strings_CutPrefix (bytes [104, 105]) ⟨#[239, 187, 191]⟩ w
  rw [bytes_list, show (⟨#[239, 187, 191]⟩ : ByteArray).data.toList = [239, 187, 191] from rfl, show Lib.hasPrefix [104, 105] [239, 187, 191] = false from rfl, show Lib.trimPrefix [104, 105] [239, 187, 191] = [104, 105] from rfl] at k
  have H := Lib.hid h
  have K := Lib.hid k
  have hq : (bytes [32, 104, 105]).toList.isEmpty = false := by rw [Lib.toList_data]; rfl
  have hq2 : (bytes [104, 105]).toList.isEmpty = false := by rw [Lib.toList_data]; rfl
  clear h k
  go_enter Tryz.func34, Tryz.ntmps34
  go_wp2_with fail
  refine H.out.mono ?_
  rintro e w' ⟨rfl, rfl⟩
  go_wp2_with fail
  refine K.out.mono ?_
  rintro e w' ⟨rfl, rfl⟩
  go_wp2
  go_ret2
  exact ⟨rfl, rfl⟩
theorem dec34 : Lib.decDigits 34 = [51, 52] := by
  rw [Lib.decDigits, dif_neg (by decide), show 34 / 10 = 3 from rfl, Lib.decDigits_one (by decide)]
  rfl
theorem bytesWorld_below (w : World) (t : TypeId) (s : ByteArray) : Below w.heap.size w (Lib.bytesWorld w t s) := by
  unfold Lib.bytesWorld World.freeze World.alloc World.drew
  refine ⟨rfl, rfl, rfl, by simp, fun k hk => ?_⟩
  simp [Array.getElem?_modify, Array.getElem?_push, show ¬ w.heap.size = k by omega, show ¬ k = w.heap.size by omega]
theorem origin_34 (w : World) : Calls Tryz.prog 31 #[.string (bytes [51, 52])] w fun e w' => e = .returned (.tuple #[.int .i64 4, .int .i64 2, .bool true]) ∧ Below w.heap.size w w' := by
  have HA := Lib.hid (Tryz.strconv_Atoi (bytes [51, 52]) 34 (by decide) (by decide) w)
  have HI := Lib.hid (fun W => Tryz.strconv_Itoa_small 34 (by decide) W)
  have hq : (bytes [51, 52]).toList = [51, 52] := by rw [Lib.toList_data]; rfl
  rw [dec34] at HI
  go_enter Tryz.func31, Tryz.ntmps31
  go_wp2_with fail
  refine HA.out.mono ?_
  rintro e w2 ⟨rfl, t, rfl⟩
  have hb := bytesWorld_below w 5 t
  generalize Lib.bytesWorld w 5 t = w2 at hb ⊢
  go_wp2_with fail
  refine (HI.out _).mono ?_
  rintro e w3 ⟨rfl, rfl⟩
  go_wp2
  refine bodyPost_ret (v := .tuple #[.int .i64 4, .int .i64 2, .bool true]) (by simp [results, Tryz.results31, go_sem]) rfl ⟨rfl, hb⟩
end Go.Proofs.YtmmghppjhmdikaaGreatDoor
/- What the worlds behind the first calls of sysl.Parse hold of its variables. -/
namespace Go.Proofs.YtmmghppjhmdikaaGreatDoor
open Go.ChangeShapes Go.WideShapes Go.ChangeAt Go.RowKit

/-- What the worlds behind Parse's first calls hold of its variables. -/
structure PAt (w W : World) (c0 c1 c2 c3 c4 c5 c6 c7 c8 c9 : Value) (r : List UInt8) : Prop where
  k0 : W.cell? ⟨w.heap.size + 1, 0, none⟩ = some c0
  k1 : W.cell? ⟨w.heap.size + 1, 1, none⟩ = some c1
  k2 : W.cell? ⟨w.heap.size + 1, 2, none⟩ = some c2
  k3 : W.cell? ⟨w.heap.size + 1, 3, none⟩ = some c3
  k4 : W.cell? ⟨w.heap.size + 1, 4, none⟩ = some c4
  k5 : W.cell? ⟨w.heap.size + 1, 5, none⟩ = some c5
  k6 : W.cell? ⟨w.heap.size + 1, 6, none⟩ = some c6
  k7 : W.cell? ⟨w.heap.size + 1, 7, none⟩ = some c7
  k8 : W.cell? ⟨w.heap.size + 1, 8, none⟩ = some c8
  k9 : W.cell? ⟨w.heap.size + 1, 9, none⟩ = some c9
  kr : W.cell? ⟨w.heap.size + 2, 0, none⟩ = some (.string (bytes r))
  kf : W.cell? ⟨w.heap.size + 3, 0, none⟩ = some (.bool true)
  z : w.heap.size + 4 < W.heap.size
  f0 : ∀ o, W.frozen? ⟨w.heap.size, o, none⟩ = false
  f1 : ∀ o, W.frozen? ⟨w.heap.size + 1, o, none⟩ = false
  f2 : ∀ o, W.frozen? ⟨w.heap.size + 2, o, none⟩ = false
  f3 : ∀ o, W.frozen? ⟨w.heap.size + 3, o, none⟩ = false
  b : Below w.heap.size w W
  e : ∀ i : Nat, i < 10 → ∃ v, W.cell? ⟨w.heap.size, i, none⟩ = some v
theorem PAt.below {w W W' : World} {c0 c1 c2 c3 c4 c5 c6 c7 c8 c9 : Value} {r : List UInt8} (h : PAt w W c0 c1 c2 c3 c4 c5 c6 c7 c8 c9 r) (hb : Below W.heap.size W W') : PAt w W' c0 c1 c2 c3 c4 c5 c6 c7 c8 c9 r := by
  have hz := h.z
  have hc : ∀ b o, b < W.heap.size → W'.cell? ⟨b, o, none⟩ = W.cell? ⟨b, o, none⟩ := (bcell hb).1
  have hf : ∀ b o, b < W.heap.size → W'.frozen? ⟨b, o, none⟩ = W.frozen? ⟨b, o, none⟩ := (bcell hb).2
  exact ⟨(hc _ _ (by omega)).trans h.k0, (hc _ _ (by omega)).trans h.k1, (hc _ _ (by omega)).trans h.k2, (hc _ _ (by omega)).trans h.k3, (hc _ _ (by omega)).trans h.k4, (hc _ _ (by omega)).trans h.k5, (hc _ _ (by omega)).trans h.k6, (hc _ _ (by omega)).trans h.k7, (hc _ _ (by omega)).trans h.k8, (hc _ _ (by omega)).trans h.k9, (hc _ _ (by omega)).trans h.kr, (hc _ _ (by omega)).trans h.kf,
    Nat.lt_of_lt_of_le hz hb.size, fun o => (hf _ _ (by omega)).trans (h.f0 o), fun o => (hf _ _ (by omega)).trans (h.f1 o), fun o => (hf _ _ (by omega)).trans (h.f2 o), fun o => (hf _ _ (by omega)).trans (h.f3 o), h.b.trans (hb.mono h.b.size), fun i hi => by
      obtain ⟨v, hv⟩ := h.e i hi
      exact ⟨v, (hc _ _ (by omega)).trans hv⟩⟩
theorem PAt.set0 {w W : World} {c0 c1 c2 c3 c4 c5 c6 c7 c8 c9 : Value} {r : List UInt8} (h : PAt w W c0 c1 c2 c3 c4 c5 c6 c7 c8 c9 r) (v : Value) : PAt w (W.setCell ⟨w.heap.size + 1, 0, none⟩ v) v c1 c2 c3 c4 c5 c6 c7 c8 c9 r where
  k0 := by simp [go_sem, h.k0]
  k1 := by simp [go_sem, h.k1]
  k2 := by simp [go_sem, h.k2]
  k3 := by simp [go_sem, h.k3]
  k4 := by simp [go_sem, h.k4]
  k5 := by simp [go_sem, h.k5]
  k6 := by simp [go_sem, h.k6]
  k7 := by simp [go_sem, h.k7]
  k8 := by simp [go_sem, h.k8]
  k9 := by simp [go_sem, h.k9]
  kr := by simp [go_sem, h.kr]
  kf := by simp [go_sem, h.kf]
  z := by have := h.z; simpa using this
  f0 := fun o => by have := h.f0 o; simpa [go_sem] using this
  f1 := fun o => by have := h.f1 o; simpa [go_sem] using this
  f2 := fun o => by have := h.f2 o; simpa [go_sem] using this
  f3 := fun o => by have := h.f3 o; simpa [go_sem] using this
  b := h.b.setCell (p := ⟨w.heap.size + 1, 0, none⟩) (by simp <;> omega) _
  e := fun i hi => by obtain ⟨v, hv⟩ := h.e i hi; exact ⟨v, by simp [go_sem, hv]⟩
theorem PAt.set1 {w W : World} {c0 c1 c2 c3 c4 c5 c6 c7 c8 c9 : Value} {r : List UInt8} (h : PAt w W c0 c1 c2 c3 c4 c5 c6 c7 c8 c9 r) (v : Value) : PAt w (W.setCell ⟨w.heap.size + 1, 1, none⟩ v) c0 v c2 c3 c4 c5 c6 c7 c8 c9 r where
  k0 := by simp [go_sem, h.k0]
  k1 := by simp [go_sem, h.k1]
  k2 := by simp [go_sem, h.k2]
  k3 := by simp [go_sem, h.k3]
  k4 := by simp [go_sem, h.k4]
  k5 := by simp [go_sem, h.k5]
  k6 := by simp [go_sem, h.k6]
  k7 := by simp [go_sem, h.k7]
  k8 := by simp [go_sem, h.k8]
  k9 := by simp [go_sem, h.k9]
  kr := by simp [go_sem, h.kr]
  kf := by simp [go_sem, h.kf]
  z := by have := h.z; simpa using this
  f0 := fun o => by have := h.f0 o; simpa [go_sem] using this
  f1 := fun o => by have := h.f1 o; simpa [go_sem] using this
  f2 := fun o => by have := h.f2 o; simpa [go_sem] using this
  f3 := fun o => by have := h.f3 o; simpa [go_sem] using this
  b := h.b.setCell (p := ⟨w.heap.size + 1, 1, none⟩) (by simp <;> omega) _
  e := fun i hi => by obtain ⟨v, hv⟩ := h.e i hi; exact ⟨v, by simp [go_sem, hv]⟩
theorem PAt.set2 {w W : World} {c0 c1 c2 c3 c4 c5 c6 c7 c8 c9 : Value} {r : List UInt8} (h : PAt w W c0 c1 c2 c3 c4 c5 c6 c7 c8 c9 r) (v : Value) : PAt w (W.setCell ⟨w.heap.size + 1, 2, none⟩ v) c0 c1 v c3 c4 c5 c6 c7 c8 c9 r where
  k0 := by simp [go_sem, h.k0]
  k1 := by simp [go_sem, h.k1]
  k2 := by simp [go_sem, h.k2]
  k3 := by simp [go_sem, h.k3]
  k4 := by simp [go_sem, h.k4]
  k5 := by simp [go_sem, h.k5]
  k6 := by simp [go_sem, h.k6]
  k7 := by simp [go_sem, h.k7]
  k8 := by simp [go_sem, h.k8]
  k9 := by simp [go_sem, h.k9]
  kr := by simp [go_sem, h.kr]
  kf := by simp [go_sem, h.kf]
  z := by have := h.z; simpa using this
  f0 := fun o => by have := h.f0 o; simpa [go_sem] using this
  f1 := fun o => by have := h.f1 o; simpa [go_sem] using this
  f2 := fun o => by have := h.f2 o; simpa [go_sem] using this
  f3 := fun o => by have := h.f3 o; simpa [go_sem] using this
  b := h.b.setCell (p := ⟨w.heap.size + 1, 2, none⟩) (by simp <;> omega) _
  e := fun i hi => by obtain ⟨v, hv⟩ := h.e i hi; exact ⟨v, by simp [go_sem, hv]⟩
theorem PAt.set3 {w W : World} {c0 c1 c2 c3 c4 c5 c6 c7 c8 c9 : Value} {r : List UInt8} (h : PAt w W c0 c1 c2 c3 c4 c5 c6 c7 c8 c9 r) (v : Value) : PAt w (W.setCell ⟨w.heap.size + 1, 3, none⟩ v) c0 c1 c2 v c4 c5 c6 c7 c8 c9 r where
  k0 := by simp [go_sem, h.k0]
  k1 := by simp [go_sem, h.k1]
  k2 := by simp [go_sem, h.k2]
  k3 := by simp [go_sem, h.k3]
  k4 := by simp [go_sem, h.k4]
  k5 := by simp [go_sem, h.k5]
  k6 := by simp [go_sem, h.k6]
  k7 := by simp [go_sem, h.k7]
  k8 := by simp [go_sem, h.k8]
  k9 := by simp [go_sem, h.k9]
  kr := by simp [go_sem, h.kr]
  kf := by simp [go_sem, h.kf]
  z := by have := h.z; simpa using this
  f0 := fun o => by have := h.f0 o; simpa [go_sem] using this
  f1 := fun o => by have := h.f1 o; simpa [go_sem] using this
  f2 := fun o => by have := h.f2 o; simpa [go_sem] using this
  f3 := fun o => by have := h.f3 o; simpa [go_sem] using this
  b := h.b.setCell (p := ⟨w.heap.size + 1, 3, none⟩) (by simp <;> omega) _
  e := fun i hi => by obtain ⟨v, hv⟩ := h.e i hi; exact ⟨v, by simp [go_sem, hv]⟩
theorem PAt.set8 {w W : World} {c0 c1 c2 c3 c4 c5 c6 c7 c8 c9 : Value} {r : List UInt8} (h : PAt w W c0 c1 c2 c3 c4 c5 c6 c7 c8 c9 r) (v : Value) : PAt w (W.setCell ⟨w.heap.size + 1, 8, none⟩ v) c0 c1 c2 c3 c4 c5 c6 c7 v c9 r where
  k0 := by simp [go_sem, h.k0]
  k1 := by simp [go_sem, h.k1]
  k2 := by simp [go_sem, h.k2]
  k3 := by simp [go_sem, h.k3]
  k4 := by simp [go_sem, h.k4]
  k5 := by simp [go_sem, h.k5]
  k6 := by simp [go_sem, h.k6]
  k7 := by simp [go_sem, h.k7]
  k8 := by simp [go_sem, h.k8]
  k9 := by simp [go_sem, h.k9]
  kr := by simp [go_sem, h.kr]
  kf := by simp [go_sem, h.kf]
  z := by have := h.z; simpa using this
  f0 := fun o => by have := h.f0 o; simpa [go_sem] using this
  f1 := fun o => by have := h.f1 o; simpa [go_sem] using this
  f2 := fun o => by have := h.f2 o; simpa [go_sem] using this
  f3 := fun o => by have := h.f3 o; simpa [go_sem] using this
  b := h.b.setCell (p := ⟨w.heap.size + 1, 8, none⟩) (by simp <;> omega) _
  e := fun i hi => by obtain ⟨v, hv⟩ := h.e i hi; exact ⟨v, by simp [go_sem, hv]⟩
theorem PAt.set9 {w W : World} {c0 c1 c2 c3 c4 c5 c6 c7 c8 c9 : Value} {r : List UInt8} (h : PAt w W c0 c1 c2 c3 c4 c5 c6 c7 c8 c9 r) (v : Value) : PAt w (W.setCell ⟨w.heap.size + 1, 9, none⟩ v) c0 c1 c2 c3 c4 c5 c6 c7 c8 v r where
  k0 := by simp [go_sem, h.k0]
  k1 := by simp [go_sem, h.k1]
  k2 := by simp [go_sem, h.k2]
  k3 := by simp [go_sem, h.k3]
  k4 := by simp [go_sem, h.k4]
  k5 := by simp [go_sem, h.k5]
  k6 := by simp [go_sem, h.k6]
  k7 := by simp [go_sem, h.k7]
  k8 := by simp [go_sem, h.k8]
  k9 := by simp [go_sem, h.k9]
  kr := by simp [go_sem, h.kr]
  kf := by simp [go_sem, h.kf]
  z := by have := h.z; simpa using this
  f0 := fun o => by have := h.f0 o; simpa [go_sem] using this
  f1 := fun o => by have := h.f1 o; simpa [go_sem] using this
  f2 := fun o => by have := h.f2 o; simpa [go_sem] using this
  f3 := fun o => by have := h.f3 o; simpa [go_sem] using this
  b := h.b.setCell (p := ⟨w.heap.size + 1, 9, none⟩) (by simp <;> omega) _
  e := fun i hi => by obtain ⟨v, hv⟩ := h.e i hi; exact ⟨v, by simp [go_sem, hv]⟩
theorem PAt.setr {w W : World} {c0 c1 c2 c3 c4 c5 c6 c7 c8 c9 : Value} {r : List UInt8} (h : PAt w W c0 c1 c2 c3 c4 c5 c6 c7 c8 c9 r) (r' : List UInt8) : PAt w (W.setCell ⟨w.heap.size + 1 + 1, 0, none⟩ (.string (bytes r'))) c0 c1 c2 c3 c4 c5 c6 c7 c8 c9 r' where
  k0 := by simp [go_sem, h.k0]
  k1 := by simp [go_sem, h.k1]
  k2 := by simp [go_sem, h.k2]
  k3 := by simp [go_sem, h.k3]
  k4 := by simp [go_sem, h.k4]
  k5 := by simp [go_sem, h.k5]
  k6 := by simp [go_sem, h.k6]
  k7 := by simp [go_sem, h.k7]
  k8 := by simp [go_sem, h.k8]
  k9 := by simp [go_sem, h.k9]
  kr := by simp [go_sem, h.kr]
  kf := by simp [go_sem, h.kf]
  z := by have := h.z; simpa using this
  f0 := fun o => by have := h.f0 o; simpa [go_sem] using this
  f1 := fun o => by have := h.f1 o; simpa [go_sem] using this
  f2 := fun o => by have := h.f2 o; simpa [go_sem] using this
  f3 := fun o => by have := h.f3 o; simpa [go_sem] using this
  b := h.b.setCell (p := ⟨w.heap.size + 1 + 1, 0, none⟩) (by simp <;> omega) _
  e := fun i hi => by obtain ⟨v, hv⟩ := h.e i hi; exact ⟨v, by simp [go_sem, hv]⟩
theorem PAt.setf {w W : World} {c0 c1 c2 c3 c4 c5 c6 c7 c8 c9 : Value} {r : List UInt8} (h : PAt w W c0 c1 c2 c3 c4 c5 c6 c7 c8 c9 r) : PAt w (W.setCell ⟨w.heap.size + 1 + 1 + 1, 0, none⟩ (.bool true)) c0 c1 c2 c3 c4 c5 c6 c7 c8 c9 r where
  k0 := by simp [go_sem, h.k0]
  k1 := by simp [go_sem, h.k1]
  k2 := by simp [go_sem, h.k2]
  k3 := by simp [go_sem, h.k3]
  k4 := by simp [go_sem, h.k4]
  k5 := by simp [go_sem, h.k5]
  k6 := by simp [go_sem, h.k6]
  k7 := by simp [go_sem, h.k7]
  k8 := by simp [go_sem, h.k8]
  k9 := by simp [go_sem, h.k9]
  kr := by simp [go_sem, h.kr]
  kf := by simp [go_sem, h.kf]
  z := by have := h.z; simpa using this
  f0 := fun o => by have := h.f0 o; simpa [go_sem] using this
  f1 := fun o => by have := h.f1 o; simpa [go_sem] using this
  f2 := fun o => by have := h.f2 o; simpa [go_sem] using this
  f3 := fun o => by have := h.f3 o; simpa [go_sem] using this
  b := h.b.setCell (p := ⟨w.heap.size + 1 + 1 + 1, 0, none⟩) (by simp <;> omega) _
  e := fun i hi => by obtain ⟨v, hv⟩ := h.e i hi; exact ⟨v, by simp [go_sem, hv]⟩
end Go.Proofs.YtmmghppjhmdikaaGreatDoor
