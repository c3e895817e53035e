/- The texts Slots, PAt, one behind the other. -/
import Derived.Test.YtnaijahhogndjaaGreatDoorRows
import Derived.Test.YtnaijahhogndjaaGreatDoorBG8
/- Frames of ninety slots whose third one is a place: named, opened and made at a stroke. -/
namespace Go.Proofs.YtnaijahhogndjaaGreatDoor
inductive Frame90 (b : Nat) : Act → Prop
  | mk (u0 u1 u3 u4 u5 u6 u7 u8 u9 u10 u11 u12 u13 u14 u15 u16 u17 u18 u19 u20 u21 u22 u23 u24 u25 u26 u27 u28 u29 u30 u31 u32 u33 u34 u35 u36 u37 u38 u39 u40 u41 u42 u43 u44 u45 u46 u47 u48 u49 u50 u51 u52 u53 u54 u55 u56 u57 u58 u59 u60 u61 u62 u63 u64 u65 u66 u67 u68 u69 u70 u71 u72 u73 u74 u75 u76 u77 u78 u79 u80 u81 u82 u83 u84 u85 u86 u87 u88 u89 : Value) : Frame90 b { tmps := #[u0, u1, .pointer (some ⟨b, 0, none⟩), u3, u4, u5, u6, u7, u8, u9, u10, u11, u12, u13, u14, u15, u16, u17, u18, u19, u20, u21, u22, u23, u24, u25, u26, u27, u28, u29, u30, u31, u32, u33, u34, u35, u36, u37, u38, u39, u40, u41, u42, u43, u44, u45, u46, u47, u48, u49, u50, u51, u52, u53, u54, u55, u56, u57, u58, u59, u60, u61, u62, u63, u64, u65, u66, u67, u68, u69, u70, u71, u72, u73, u74, u75, u76, u77, u78, u79, u80, u81, u82, u83, u84, u85, u86, u87, u88, u89], defers := [] }
end Go.Proofs.YtnaijahhogndjaaGreatDoor
/- What the worlds behind the first calls of sysl.Parse hold of its variables. -/
namespace Go.Proofs.YtnaijahhogndjaaGreatDoor
open Go.ChangeShapes Go.WideShapes Go.ChangeAt Go.RowKit

/-- What the worlds behind Parse's first calls hold of its variables. -/
structure PAt (w W : World) (c0 c1 c2 c3 c4 c5 c6 c7 c8 c9 : Value) (r : List UInt8) : Prop where
  k0 : W.cell? ⟨w.heap.size + 1, 0, none⟩ = some c0
  k1 : W.cell? ⟨w.heap.size + 1, 1, none⟩ = some c1
  k2 : W.cell? ⟨w.heap.size + 1, 2, none⟩ = some c2
  k3 : W.cell? ⟨w.heap.size + 1, 3, none⟩ = some c3
  k4 : W.cell? ⟨w.heap.size + 1, 4, none⟩ = some c4
  k5 : W.cell? ⟨w.heap.size + 1, 5, none⟩ = some c5
  k6 : W.cell? ⟨w.heap.size + 1, 6, none⟩ = some c6
  k7 : W.cell? ⟨w.heap.size + 1, 7, none⟩ = some c7
  k8 : W.cell? ⟨w.heap.size + 1, 8, none⟩ = some c8
  k9 : W.cell? ⟨w.heap.size + 1, 9, none⟩ = some c9
  kr : W.cell? ⟨w.heap.size + 2, 0, none⟩ = some (.string (bytes r))
  kf : W.cell? ⟨w.heap.size + 3, 0, none⟩ = some (.bool true)
  z : w.heap.size + 4 < W.heap.size
  f0 : ∀ o, W.frozen? ⟨w.heap.size, o, none⟩ = false
  f1 : ∀ o, W.frozen? ⟨w.heap.size + 1, o, none⟩ = false
  f2 : ∀ o, W.frozen? ⟨w.heap.size + 2, o, none⟩ = false
  f3 : ∀ o, W.frozen? ⟨w.heap.size + 3, o, none⟩ = false
  b : Below w.heap.size w W
  e : ∀ i : Nat, i < 10 → ∃ v, W.cell? ⟨w.heap.size, i, none⟩ = some v
theorem PAt.below {w W W' : World} {c0 c1 c2 c3 c4 c5 c6 c7 c8 c9 : Value} {r : List UInt8} (h : PAt w W c0 c1 c2 c3 c4 c5 c6 c7 c8 c9 r) (hb : Below W.heap.size W W') : PAt w W' c0 c1 c2 c3 c4 c5 c6 c7 c8 c9 r := by
  have hz := h.z
  have hc : ∀ b o, b < W.heap.size → W'.cell? ⟨b, o, none⟩ = W.cell? ⟨b, o, none⟩ := (bcell hb).1
  have hf : ∀ b o, b < W.heap.size → W'.frozen? ⟨b, o, none⟩ = W.frozen? ⟨b, o, none⟩ := (bcell hb).2
  exact ⟨(hc _ _ (by omega)).trans h.k0, (hc _ _ (by omega)).trans h.k1, (hc _ _ (by omega)).trans h.k2, (hc _ _ (by omega)).trans h.k3, (hc _ _ (by omega)).trans h.k4, (hc _ _ (by omega)).trans h.k5, (hc _ _ (by omega)).trans h.k6, (hc _ _ (by omega)).trans h.k7, (hc _ _ (by omega)).trans h.k8, (hc _ _ (by omega)).trans h.k9, (hc _ _ (by omega)).trans h.kr, (hc _ _ (by omega)).trans h.kf,
    Nat.lt_of_lt_of_le hz hb.size, fun o => (hf _ _ (by omega)).trans (h.f0 o), fun o => (hf _ _ (by omega)).trans (h.f1 o), fun o => (hf _ _ (by omega)).trans (h.f2 o), fun o => (hf _ _ (by omega)).trans (h.f3 o), h.b.trans (hb.mono h.b.size), fun i hi => by
      obtain ⟨v, hv⟩ := h.e i hi
      exact ⟨v, (hc _ _ (by omega)).trans hv⟩⟩
theorem PAt.set0 {w W : World} {c0 c1 c2 c3 c4 c5 c6 c7 c8 c9 : Value} {r : List UInt8} (h : PAt w W c0 c1 c2 c3 c4 c5 c6 c7 c8 c9 r) (v : Value) : PAt w (W.setCell ⟨w.heap.size + 1, 0, none⟩ v) v c1 c2 c3 c4 c5 c6 c7 c8 c9 r where
  k0 := by simp [go_sem, h.k0]
  k1 := by simp [go_sem, h.k1]
  k2 := by simp [go_sem, h.k2]
  k3 := by simp [go_sem, h.k3]
  k4 := by simp [go_sem, h.k4]
  k5 := by simp [go_sem, h.k5]
  k6 := by simp [go_sem, h.k6]
  k7 := by simp [go_sem, h.k7]
  k8 := by simp [go_sem, h.k8]
  k9 := by simp [go_sem, h.k9]
  kr := by simp [go_sem, h.kr]
  kf := by simp [go_sem, h.kf]
  z := by have := h.z; simpa using this
  f0 := fun o => by have := h.f0 o; simpa [go_sem] using this
  f1 := fun o => by have := h.f1 o; simpa [go_sem] using this
  f2 := fun o => by have := h.f2 o; simpa [go_sem] using this
  f3 := fun o => by have := h.f3 o; simpa [go_sem] using this
  b := h.b.setCell (p := ⟨w.heap.size + 1, 0, none⟩) (by simp <;> omega) _
  e := fun i hi => by obtain ⟨v, hv⟩ := h.e i hi; exact ⟨v, by simp [go_sem, hv]⟩
theorem PAt.set1 {w W : World} {c0 c1 c2 c3 c4 c5 c6 c7 c8 c9 : Value} {r : List UInt8} (h : PAt w W c0 c1 c2 c3 c4 c5 c6 c7 c8 c9 r) (v : Value) : PAt w (W.setCell ⟨w.heap.size + 1, 1, none⟩ v) c0 v c2 c3 c4 c5 c6 c7 c8 c9 r where
  k0 := by simp [go_sem, h.k0]
  k1 := by simp [go_sem, h.k1]
  k2 := by simp [go_sem, h.k2]
  k3 := by simp [go_sem, h.k3]
  k4 := by simp [go_sem, h.k4]
  k5 := by simp [go_sem, h.k5]
  k6 := by simp [go_sem, h.k6]
  k7 := by simp [go_sem, h.k7]
  k8 := by simp [go_sem, h.k8]
  k9 := by simp [go_sem, h.k9]
  kr := by simp [go_sem, h.kr]
  kf := by simp [go_sem, h.kf]
  z := by have := h.z; simpa using this
  f0 := fun o => by have := h.f0 o; simpa [go_sem] using this
  f1 := fun o => by have := h.f1 o; simpa [go_sem] using this
  f2 := fun o => by have := h.f2 o; simpa [go_sem] using this
  f3 := fun o => by have := h.f3 o; simpa [go_sem] using this
  b := h.b.setCell (p := ⟨w.heap.size + 1, 1, none⟩) (by simp <;> omega) _
  e := fun i hi => by obtain ⟨v, hv⟩ := h.e i hi; exact ⟨v, by simp [go_sem, hv]⟩
theorem PAt.set2 {w W : World} {c0 c1 c2 c3 c4 c5 c6 c7 c8 c9 : Value} {r : List UInt8} (h : PAt w W c0 c1 c2 c3 c4 c5 c6 c7 c8 c9 r) (v : Value) : PAt w (W.setCell ⟨w.heap.size + 1, 2, none⟩ v) c0 c1 v c3 c4 c5 c6 c7 c8 c9 r where
  k0 := by simp [go_sem, h.k0]
  k1 := by simp [go_sem, h.k1]
  k2 := by simp [go_sem, h.k2]
  k3 := by simp [go_sem, h.k3]
  k4 := by simp [go_sem, h.k4]
  k5 := by simp [go_sem, h.k5]
  k6 := by simp [go_sem, h.k6]
  k7 := by simp [go_sem, h.k7]
  k8 := by simp [go_sem, h.k8]
  k9 := by simp [go_sem, h.k9]
  kr := by simp [go_sem, h.kr]
  kf := by simp [go_sem, h.kf]
  z := by have := h.z; simpa using this
  f0 := fun o => by have := h.f0 o; simpa [go_sem] using this
  f1 := fun o => by have := h.f1 o; simpa [go_sem] using this
  f2 := fun o => by have := h.f2 o; simpa [go_sem] using this
  f3 := fun o => by have := h.f3 o; simpa [go_sem] using this
  b := h.b.setCell (p := ⟨w.heap.size + 1, 2, none⟩) (by simp <;> omega) _
  e := fun i hi => by obtain ⟨v, hv⟩ := h.e i hi; exact ⟨v, by simp [go_sem, hv]⟩
theorem PAt.set3 {w W : World} {c0 c1 c2 c3 c4 c5 c6 c7 c8 c9 : Value} {r : List UInt8} (h : PAt w W c0 c1 c2 c3 c4 c5 c6 c7 c8 c9 r) (v : Value) : PAt w (W.setCell ⟨w.heap.size + 1, 3, none⟩ v) c0 c1 c2 v c4 c5 c6 c7 c8 c9 r where
  k0 := by simp [go_sem, h.k0]
  k1 := by simp [go_sem, h.k1]
  k2 := by simp [go_sem, h.k2]
  k3 := by simp [go_sem, h.k3]
  k4 := by simp [go_sem, h.k4]
  k5 := by simp [go_sem, h.k5]
  k6 := by simp [go_sem, h.k6]
  k7 := by simp [go_sem, h.k7]
  k8 := by simp [go_sem, h.k8]
  k9 := by simp [go_sem, h.k9]
  kr := by simp [go_sem, h.kr]
  kf := by simp [go_sem, h.kf]
  z := by have := h.z; simpa using this
  f0 := fun o => by have := h.f0 o; simpa [go_sem] using this
  f1 := fun o => by have := h.f1 o; simpa [go_sem] using this
  f2 := fun o => by have := h.f2 o; simpa [go_sem] using this
  f3 := fun o => by have := h.f3 o; simpa [go_sem] using this
  b := h.b.setCell (p := ⟨w.heap.size + 1, 3, none⟩) (by simp <;> omega) _
  e := fun i hi => by obtain ⟨v, hv⟩ := h.e i hi; exact ⟨v, by simp [go_sem, hv]⟩
theorem PAt.set8 {w W : World} {c0 c1 c2 c3 c4 c5 c6 c7 c8 c9 : Value} {r : List UInt8} (h : PAt w W c0 c1 c2 c3 c4 c5 c6 c7 c8 c9 r) (v : Value) : PAt w (W.setCell ⟨w.heap.size + 1, 8, none⟩ v) c0 c1 c2 c3 c4 c5 c6 c7 v c9 r where
  k0 := by simp [go_sem, h.k0]
  k1 := by simp [go_sem, h.k1]
  k2 := by simp [go_sem, h.k2]
  k3 := by simp [go_sem, h.k3]
  k4 := by simp [go_sem, h.k4]
  k5 := by simp [go_sem, h.k5]
  k6 := by simp [go_sem, h.k6]
  k7 := by simp [go_sem, h.k7]
  k8 := by simp [go_sem, h.k8]
  k9 := by simp [go_sem, h.k9]
  kr := by simp [go_sem, h.kr]
  kf := by simp [go_sem, h.kf]
  z := by have := h.z; simpa using this
  f0 := fun o => by have := h.f0 o; simpa [go_sem] using this
  f1 := fun o => by have := h.f1 o; simpa [go_sem] using this
  f2 := fun o => by have := h.f2 o; simpa [go_sem] using this
  f3 := fun o => by have := h.f3 o; simpa [go_sem] using this
  b := h.b.setCell (p := ⟨w.heap.size + 1, 8, none⟩) (by simp <;> omega) _
  e := fun i hi => by obtain ⟨v, hv⟩ := h.e i hi; exact ⟨v, by simp [go_sem, hv]⟩
theorem PAt.set9 {w W : World} {c0 c1 c2 c3 c4 c5 c6 c7 c8 c9 : Value} {r : List UInt8} (h : PAt w W c0 c1 c2 c3 c4 c5 c6 c7 c8 c9 r) (v : Value) : PAt w (W.setCell ⟨w.heap.size + 1, 9, none⟩ v) c0 c1 c2 c3 c4 c5 c6 c7 c8 v r where
  k0 := by simp [go_sem, h.k0]
  k1 := by simp [go_sem, h.k1]
  k2 := by simp [go_sem, h.k2]
  k3 := by simp [go_sem, h.k3]
  k4 := by simp [go_sem, h.k4]
  k5 := by simp [go_sem, h.k5]
  k6 := by simp [go_sem, h.k6]
  k7 := by simp [go_sem, h.k7]
  k8 := by simp [go_sem, h.k8]
  k9 := by simp [go_sem, h.k9]
  kr := by simp [go_sem, h.kr]
  kf := by simp [go_sem, h.kf]
  z := by have := h.z; simpa using this
  f0 := fun o => by have := h.f0 o; simpa [go_sem] using this
  f1 := fun o => by have := h.f1 o; simpa [go_sem] using this
  f2 := fun o => by have := h.f2 o; simpa [go_sem] using this
  f3 := fun o => by have := h.f3 o; simpa [go_sem] using this
  b := h.b.setCell (p := ⟨w.heap.size + 1, 9, none⟩) (by simp <;> omega) _
  e := fun i hi => by obtain ⟨v, hv⟩ := h.e i hi; exact ⟨v, by simp [go_sem, hv]⟩
theorem PAt.setr {w W : World} {c0 c1 c2 c3 c4 c5 c6 c7 c8 c9 : Value} {r : List UInt8} (h : PAt w W c0 c1 c2 c3 c4 c5 c6 c7 c8 c9 r) (r' : List UInt8) : PAt w (W.setCell ⟨w.heap.size + 1 + 1, 0, none⟩ (.string (bytes r'))) c0 c1 c2 c3 c4 c5 c6 c7 c8 c9 r' where
  k0 := by simp [go_sem, h.k0]
  k1 := by simp [go_sem, h.k1]
  k2 := by simp [go_sem, h.k2]
  k3 := by simp [go_sem, h.k3]
  k4 := by simp [go_sem, h.k4]
  k5 := by simp [go_sem, h.k5]
  k6 := by simp [go_sem, h.k6]
  k7 := by simp [go_sem, h.k7]
  k8 := by simp [go_sem, h.k8]
  k9 := by simp [go_sem, h.k9]
  kr := by simp [go_sem, h.kr]
  kf := by simp [go_sem, h.kf]
  z := by have := h.z; simpa using this
  f0 := fun o => by have := h.f0 o; simpa [go_sem] using this
  f1 := fun o => by have := h.f1 o; simpa [go_sem] using this
  f2 := fun o => by have := h.f2 o; simpa [go_sem] using this
  f3 := fun o => by have := h.f3 o; simpa [go_sem] using this
  b := h.b.setCell (p := ⟨w.heap.size + 1 + 1, 0, none⟩) (by simp <;> omega) _
  e := fun i hi => by obtain ⟨v, hv⟩ := h.e i hi; exact ⟨v, by simp [go_sem, hv]⟩
theorem PAt.setf {w W : World} {c0 c1 c2 c3 c4 c5 c6 c7 c8 c9 : Value} {r : List UInt8} (h : PAt w W c0 c1 c2 c3 c4 c5 c6 c7 c8 c9 r) : PAt w (W.setCell ⟨w.heap.size + 1 + 1 + 1, 0, none⟩ (.bool true)) c0 c1 c2 c3 c4 c5 c6 c7 c8 c9 r where
  k0 := by simp [go_sem, h.k0]
  k1 := by simp [go_sem, h.k1]
  k2 := by simp [go_sem, h.k2]
  k3 := by simp [go_sem, h.k3]
  k4 := by simp [go_sem, h.k4]
  k5 := by simp [go_sem, h.k5]
  k6 := by simp [go_sem, h.k6]
  k7 := by simp [go_sem, h.k7]
  k8 := by simp [go_sem, h.k8]
  k9 := by simp [go_sem, h.k9]
  kr := by simp [go_sem, h.kr]
  kf := by simp [go_sem, h.kf]
  z := by have := h.z; simpa using this
  f0 := fun o => by have := h.f0 o; simpa [go_sem] using this
  f1 := fun o => by have := h.f1 o; simpa [go_sem] using this
  f2 := fun o => by have := h.f2 o; simpa [go_sem] using this
  f3 := fun o => by have := h.f3 o; simpa [go_sem] using this
  b := h.b.setCell (p := ⟨w.heap.size + 1 + 1 + 1, 0, none⟩) (by simp <;> omega) _
  e := fun i hi => by obtain ⟨v, hv⟩ := h.e i hi; exact ⟨v, by simp [go_sem, hv]⟩
end Go.Proofs.YtnaijahhogndjaaGreatDoor
