/- A row of texts among the arguments of a law, as a list: how it lies in memory, and that neither it nor any of its texts is longer than memory. -/
import Derived.Test.YtdfmaimeogcpdaaRRRRText
import Derived.OpenShut
import Derived.ShutString
import Derived.SliceStrings
import Derived.SizedLaws
import Derived.JoinedCond
import Derived.ChangeOld
import Derived.Below
namespace Go.Proofs.YtdfmaimeogcpdaaRRRR
open Go.ChangeShapes Go.WideShapes Go.ChangeAt Go.RowKit

theorem bytes9 : Try.prog.bytesOf 9 = 16 := by kernel_rfl
theorem own : ownKnob Try.prog.godebug = none := by kernel_rfl
theorem laidOut : laidOutB Try.prog = true := by kernel_rfl

theorem weights_strs {H : Type} (ss : List ByteArray) (s : ByteArray) (h : s ∈ ss) : s.size ∈ DataW.weightsAll (H := H) Try.prog 9 (strs ss) := by
  induction ss with
  | nil => cases h
  | cons t ss ih =>
    have e : strs (H := H) (t :: ss) = .lit (.string t.data.toList) :: strs ss := rfl
    rw [e]
    simp only [DataW.weightsAll, DataW.weights, List.mem_append, List.mem_singleton]
    rcases List.mem_cons.1 h with rfl | h
    · exact .inl (by rw [Array.length_toList]; rfl)
    · exact .inr (ih h)

theorem texts_at {w : World} {a : Addr} {ss : List ByteArray} (h : ∀ i, i < ss.length → w.cell? (a.add i) = some (.string (ss.getD i ByteArray.empty))) (hp : 0 < ss.length) :
    ∃ b off, a = ⟨b, off, none⟩ ∧ ∀ j, j < ss.length → w.cell? ⟨b, off + j, none⟩ = some (.string (ss.getD j ByteArray.empty)) := by
  obtain ⟨b, off, spot⟩ := a
  obtain rfl : spot = none := by simpa [Addr.add] using World.cell?_spot (h 0 hp)
  exact ⟨b, off, rfl, fun j hj => by rw [← Go.WideShapes.add_plain]; exact h j hj⟩

theorem open_cell {H : Type} {enc : TypeId × Value → H} {W : World} {fuel : Nat} {v : Value} {y : DataW H × List MemPlace} (hf : DataW.trod enc Try.prog W 0 (fun _ => true) true fuel 22 [v] = some y) :
    ∃ A len cap ss, v = .slice A len cap ∧ TextsAt W A len ss ∧ ((y.1 = .nil ∧ ss = []) ∨ ∃ spare, y.1 = .slice (strs ss) spare) := by
  rcases open_strings Try.underlying22 Try.underlying9 (by kernel_rfl) hf with ⟨hcs, hx⟩ | ⟨x, len, cap, ss, hcs, _, hl, hm, hz, hx, hcell, hwz⟩
  · simp only [List.cons.injEq, and_true] at hcs
    exact ⟨none, 0, 0, [], hcs, ⟨rfl, .inl rfl⟩, .inl ⟨congrArg Prod.fst hx, rfl⟩⟩
  · simp only [List.cons.injEq, and_true] at hcs
    have hz' : ss.length = cap := by simpa using hz
    refine ⟨_, len, cap, ss.take len, hcs, ⟨by rw [List.length_take]; omega, ?_⟩, .inr ⟨_, congrArg Prod.fst hx⟩⟩
    rcases Nat.eq_zero_or_pos len with h0 | h0
    · exact .inl h0
    · obtain ⟨b, off, e, hc⟩ := texts_at hcell (by omega)
      refine .inr ⟨b, off, congrArg some e, World.block_lt_of_cell? W _ (hc 0 (by omega)), fun i hi => ?_⟩
      rw [hc i (by omega)]
      simp [List.getD, hi]
theorem open_row {H : Type} {enc : TypeId × Value → H} {W : World} {A : Option Addr} {len cap : Nat} {d : DataW H} {p : List MemPlace}
    (h : DataW.Trod enc Try.prog W 0 (fun _ => true) true 22 (.slice A len cap) d p) :
    ∃ ss, TextsAt W A len ss ∧ ((d = .nil ∧ ss = []) ∨ ∃ spare, d = .slice (strs ss) spare) := by
  obtain ⟨fuel, hf⟩ := h
  obtain ⟨A', len', cap', ss, e, hT, hd⟩ := open_cell (y := (d, p)) hf
  cases e
  exact ⟨ss, hT, hd⟩
/-- The bounds of the form's own reach. -/
theorem row_bounds {H : Type} {W : World} {A : Option Addr} {len : Nat} {d : DataW H} {ss : List ByteArray} (hT : TextsAt W A len ss) (hd : (d = .nil ∧ ss = []) ∨ ∃ spare, d = .slice (strs ss) spare)
    (hw : ∀ n ∈ d.weights Try.prog 22, n ≤ reachBytes) : len ≤ 8796093022207 ∧ ∀ s ∈ ss, s.size ≤ 140737488351232 := by
  have hr : reachBytes = 140737488351232 := by decide
  rw [hr] at hw
  rcases hd with ⟨_, rfl⟩ | ⟨spare, rfl⟩
  · have : len = 0 := hT.1.symm
    exact ⟨by omega, fun s hs => by cases hs⟩
  · simp only [DataW.weights, Try.underlying22, bytes9, List.mem_cons, List.mem_append] at hw
    have h1 := hw _ (.inl rfl)
    have hl : (strs (H := H) ss).length = len := by rw [strs, List.length_map]; exact hT.1
    refine ⟨by omega, fun s hs => hw _ (.inr (.inl (weights_strs ss s hs)))⟩

/-! ### Short rows -/
/-- Texts that are no longer than a mebibyte each, as such. -/
def short (ss : List ByteArray) (h : ∀ s ∈ ss, s.size ≤ 1048576) : List Short := ss.attach.map fun s => ⟨s.1, h s.1 s.2⟩
theorem raw_short (ss : List ByteArray) (h : ∀ s ∈ ss, s.size ≤ 1048576) : raw (short ss h) = ss := by
  unfold raw short
  rw [List.map_map]
  exact List.attach_map_subtype_val ss
theorem size_le_sizes {ss : List ByteArray} {s : ByteArray} (h : s ∈ ss) : s.size ≤ sizes ss := by
  induction ss with
  | nil => cases h
  | cons t ss ih =>
    have e : sizes (t :: ss) = t.size + sizes ss := by simp [sizes]
    rw [e]
    rcases List.mem_cons.1 h with rfl | h
    · omega
    · have := ih h; omega
theorem sizes_le (ss : List ByteArray) (m : Nat) (h : ∀ s ∈ ss, s.size ≤ m) : sizes ss ≤ ss.length * m := by
  induction ss with
  | nil => simp [sizes]
  | cons t ss ih =>
    have e : sizes (t :: ss) = t.size + sizes ss := by simp [sizes]
    have h1 := h t (List.mem_cons_self ..)
    have h2 := ih fun s hs => h s (List.mem_cons_of_mem _ hs)
    rw [e, List.length_cons, Nat.succ_mul]
    omega
theorem total_nums (ss : List ByteArray) : total (ss.map nums) = sizes ss := by
  induction ss with
  | nil => rfl
  | cons t ss ih => rw [List.map_cons, total_cons, nums_length, ih]; simp [sizes]
/-- A text of parts that are short altogether, or none. -/
theorem text_short (kd : Nat) (A : Option Addr) (n cap : Nat) (ss : List ByteArray) (w : World) (hk : kd < 256) (hn : n ≤ 65536) (hT : TextsAt w A n ss) (hs : ∀ s ∈ ss, s.size ≤ 1048576) :
    Calls Try.prog 8 #[.int .i64 kd, .slice A n cap] w fun e w' => e = .returned (.tuple #[.string (strOfNums (laid kd (ss.map nums))), .int .i64 0]) ∧ Below w.heap.size w w' := by
  have := text_laid kd A n cap (short ss hs) w hk hn (by rw [raw_short]; exact hT)
  rwa [raw_short] at this
end Go.Proofs.YtdfmaimeogcpdaaRRRR
