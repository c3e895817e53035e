/- What Cover answers: a row of one's own of the cover's sizes; none, if m is below 0 or above n, or n above 4096. Conditions: none. -/
import Derived.Test.YtdmaipebckbmpaaCovers
namespace Go.Proofs.Ytdmaipebckbmpaa
open Go.ChangeShapes Go.WideShapes Go.ChangeAt Go.RowKit
attribute [local go_sem] Oper.semAt_some

def nums (l : List Nat) : List Value := l.map fun x => .int .i64 ((x : Nat) : Int)
theorem nums_length (l : List Nat) : (nums l).length = l.length := List.length_map ..
theorem nums_snoc (l : List Nat) (x : Nat) : nums l ++ [.int .i64 ((x : Nat) : Int)] = nums (l ++ [x]) := by simp [nums]
theorem info3 : (Try.prog.info? 3).map (fun i => (i.zero, i.size, i.bytes)) = some (some (.int .i64 0), 1, 8) := by kernel_rfl
theorem add_plain (b off j : Nat) : (⟨b, off, none⟩ : Addr).add j = ⟨b, off + j, none⟩ := by
  unfold Addr.add
  split
  · simp_all
  · rfl
theorem cells_new (w : World) (cs : Array Value) (e : TypeId) : ∀ j u, cs.toList[j]? = some u → (w.alloc (.cells cs e)).cell? ((⟨w.heap.size, 0, none⟩ : Addr).add j) = some u := fun j u hu => by
  rw [add_plain, Nat.zero_add, cell_of_row _ _ _ cs e (0, 0) (heap_alloc_new w _)]
  rw [← hu]
  simp
theorem own_slice {W : World} {base : Nat} {e : TypeId} {size : Nat} {v : Value} {n : Nat} {xs : List Value} (h : W.ownsRow base e size v n xs) : ∃ A c, v = .slice A n c := by
  rcases h.2 with ⟨rfl, rfl⟩ | ⟨g, cap, cur, rfl, _⟩
  · exact ⟨none, 0, rfl⟩
  · exact ⟨_, cap, rfl⟩
theorem own_lower {W : World} {base base' : Nat} {e : TypeId} {size : Nat} {v : Value} {n : Nat} {xs : List Value} (h : W.ownsRow base e size v n xs) (hb : base' ≤ base) : W.ownsRow base' e size v n xs := by
  refine ⟨h.1, ?_⟩
  rcases h.2 with h0 | ⟨g, cap, cur, e, hg, rest⟩
  · exact .inl h0
  · exact .inr ⟨g, cap, cur, e, Nat.le_trans hb hg, rest⟩
theorem own_loose {B : Nat} {W W' : World} {base : Nat} {e : TypeId} {size : Nat} {v : Value} {n : Nat} {xs : List Value} (h : W.ownsRow base e size v n xs) (hl : Loose B W W') : W'.ownsRow base e size v n xs := by
  refine ⟨h.1, ?_⟩
  rcases h.2 with h0 | ⟨g, cap, cur, e, hg, hh, rest⟩
  · exact .inl h0
  · exact .inr ⟨g, cap, cur, e, hg, hl.same _ _ hh (.inr rfl), rest⟩
theorem below_loose {B : Nat} {w X Y : World} (h : Below w.heap.size w X) (hl : Loose B X Y) (hB : w.heap.size ≤ B) : Below w.heap.size w Y := by
  refine ⟨hl.os.trans h.os, hl.tape.trans h.tape, hl.output.trans h.output, Nat.le_trans h.size hl.size, fun k hk => ?_⟩
  have hlt : k < X.heap.size := Nat.lt_of_lt_of_le hk h.size
  have hX := h.block k hk
  rw [← hX]
  exact (hl.same k _ (Array.getElem?_eq_getElem hlt) (.inl (by omega))).trans (Array.getElem?_eq_getElem hlt).symm

/-- What the worlds of Cover hold of its variables: s the sizes' box, bn the number's. -/
structure CAt (w W : World) (s bn V n : Nat) (v : Value) (l : List Nat) : Prop where
  box : Boxed W s 23 v
  own : W.ownsRow V 3 1 v l.length (nums l)
  num : Boxed W bn 3 (.int .i64 (n : Int))
  low : Below w.heap.size w W
  le : V ≤ W.heap.size
theorem CAt.loose {w W W' : World} {s bn V n B : Nat} {v : Value} {l : List Nat} (h : CAt w W s bn V n v l) (hB : w.heap.size ≤ B) (hl : Loose B W W') : CAt w W' s bn V n v l :=
  ⟨hl.same _ _ h.box (.inr rfl), own_loose h.own hl, hl.same _ _ h.num (.inr rfl), below_loose h.low hl hB, Nat.le_trans h.le hl.size⟩
/-- One more size, appended and stored. -/
theorem CAt.more {w W w1 : World} {s bn V n : Nat} {v v' : Value} {l : List Nat} {x : Nat} (h : CAt w W s bn V n v l) (hs : w.heap.size ≤ s) (hbn : bn < V) (hne : bn ≠ s) (hw : w.heap.size ≤ V)
    (hown : w1.ownsRow V 3 1 v' (l.length + 1) (nums l ++ [.int .i64 (x : Int)])) (hgrow : (W.alloc (.cells #[.int .i64 (x : Int)] 3)).grownBy w1 v.ownBlock) :
    Boxed w1 s 23 v ∧ CAt w (w1.setCell ⟨s, 0, none⟩ v') s bn V n v' (l ++ [x]) ∧ KeepsFrom V W (w1.setCell ⟨s, 0, none⟩ v') := by
  obtain ⟨hv1, hv2, _, hk2, hb2⟩ := h.box.appended (by decide) (own_lower h.own hw) h.low.size hs (own_lower hown hw) hgrow
  have hnr : some bn ≠ v.ownBlock := fun e => by have := (h.own.lt bn e.symm).1; omega
  have hn1 : Boxed w1 bn 3 (.int .i64 (n : Int)) := (h.num.alloc _).kept hgrow hnr
  have hg := grownBy_setCell' w1 s v'
  have hsr : v'.ownBlock = none ∨ v'.ownBlock ≠ some s := .inr (hv1.not_row (by decide) hown).symm
  refine ⟨hv1, ⟨hv2, ?_, hn1.kept hg (by simp; exact hne), h.low.trans hb2, Nat.le_trans h.le hk2.size⟩, hk2.from V⟩
  rw [List.length_append, ← nums_snoc]
  exact hown.kept hg hsr

set_option maxHeartbeats 1000000 in
set_option maxRecDepth 100000 in
theorem cover_no (m n : Int) (h : m < 0 ∨ n < m ∨ 4096 < n) (w : World) : Calls Try.prog 5 #[.int .i64 m, .int .i64 n] w fun e w' => e = .returned (.slice none 0 0) ∧ w' = w := by
  have HR := Lib.hid (refusal_no m n h)
  clear h
  go_enter Try.func5, Try.ntmps5
  go_wp2_with (go_at_call 7; refine (HR.out _).mono ?_; rintro e w2 ⟨rfl, hw⟩; obtain rfl := hw.symm; clear hw)
  go_ret
  exact ⟨rfl, rfl⟩

set_option maxRecDepth 100000 in
set_option maxHeartbeats 4000000 in
theorem cover_yes (m n : Nat) (hmn : m ≤ n) (hT : n ≤ 4096) (w : World) : Calls Try.prog 5 #[.int .i64 (m : Int), .int .i64 (n : Int)] w fun e w' => ∃ v, e = .returned v ∧ w'.ownsRow w.heap.size 3 1 v (cv m n).length (nums (cv m n)) ∧ Below w.heap.size w w' := by
  obtain ⟨i0, hi0, hz0, hs0, hb0⟩ := info_parts info3
  have HI := Lib.hid (And.intro hi0 (And.intro hz0 (And.intro hs0 hb0)))
  have HP := Lib.hid (fun w => refusal_yes (m : Int) (n : Int) (by omega) (by omega) (by omega) w)
  have hC0 : CAt w (((w.alloc (.cells #[.slice none 0 0] 23)).alloc (.cells #[.int .i64 (m : Int)] 3)).alloc (.cells #[.int .i64 (n : Int)] 3)) w.heap.size (w.heap.size + 1 + 1) (w.heap.size + 3) n (.slice none 0 0) [] := by
    refine ⟨((Boxed.new w 23 _).alloc _).alloc _, World.ownsRow_nil _ _ _ _, ?_, (((Below.refl _ w).alloc (Nat.le_refl _) _).alloc (by simp) _).alloc (by simp; omega) _, by simp⟩
    have := Boxed.new ((w.alloc (.cells #[.slice none 0 0] 23)).alloc (.cells #[.int .i64 (m : Int)] 3)) 3 (.int .i64 (n : Int))
    simpa using this
  have hM0 : Boxed (((w.alloc (.cells #[.slice none 0 0] 23)).alloc (.cells #[.int .i64 (m : Int)] 3)).alloc (.cells #[.int .i64 (n : Int)] 3)) (w.heap.size + 1) 3 (.int .i64 (m : Int)) := by
    have := (Boxed.new (w.alloc (.cells #[.slice none 0 0] 23)) 3 (.int .i64 (m : Int))).alloc (.cells #[.int .i64 (n : Int)] 3)
    simpa using this
  have hseq := covers1_in 7 (by omega) m n (w.heap.size + 1) (w.heap.size + 1 + 1) (fun A B => Boxed A (w.heap.size + 1 + 1) 3 (.int .i64 (n : Int)) → Boxed B (w.heap.size + 1 + 1) 3 (.int .i64 (n : Int))) _ hM0 hC0.num hmn hT (fun A B h => h)
  have hsz : (((w.alloc (.cells #[.slice none 0 0] 23)).alloc (.cells #[.int .i64 (m : Int)] 3)).alloc (.cells #[.int .i64 (n : Int)] 3)).heap.size = w.heap.size + 3 := by simp
  have HSEQ := Lib.hid hseq
  have HC := Lib.hid hC0
  have HSZ := Lib.hid hsz
  have HLEN := Lib.hid (cv_len m n hT)
  have HGET : Hid (∀ k, k < (cv m n).length → (cv m n).take k ++ [cz m n k] = (cv m n).take (k + 1)) := Lib.hid fun k hk => by rw [List.take_add_one, cz_get hk]; rfl
  clear hmn hT hC0 hM0 hseq hsz hi0 hz0 hs0 hb0
  refine (callsIn_wide (n := 8)).1 ?_
  refine callsIn_of_wp_marks Try.func5 rfl trivial ?_ rfl
  simp only [Try.ntmps5, List.size_toArray, List.length_cons, List.length_nil, Nat.reduceAdd, Nat.reduceSub, Array.replicate_succ, Array.replicate_zero, List.push_toArray, List.append_toArray, List.nil_append, List.cons_append]
  gi_wp2_with fail
  refine ⟨trivial, (callsIn_wide.2 (HP.out _)).mono ?_⟩
  rintro e W1 ⟨rfl, hw⟩
  obtain rfl := hw.symm
  clear hw
  gi_wp2_with fail
  refine ⟨trivial, (callsIn_wide.2 (callsIn_wide.1 (covers_in 7 _ _ _))).mono ?_⟩
  rintro e W1 ⟨rfl, hw⟩
  simp only [World.size_alloc] at hw ⊢
  obtain rfl := hw.symm
  clear hw
  gi_wp2_with fail
  generalize hV : ((w.alloc (.cells #[.slice none 0 0] 23)).alloc (.cells #[.int .i64 (m : Int)] 3)).alloc (.cells #[.int .i64 (n : Int)] 3) = V at *
  clear hV
  have hVs : V.heap.size = w.heap.size + 3 := HSZ.out
  have hbn : w.heap.size + 1 + 1 < V.heap.size := by omega
  refine wpIn_range_at rfl (by omega) (gf := 9) (lb := #[.pointer (some ⟨w.heap.size + 1, 0, none⟩), .pointer (some ⟨w.heap.size + 1 + 1, 0, none⟩)]) rfl trivial (enters_of Try.func9 (by kernel_rfl) rfl) HSEQ.out
    (fun h k x => k (h x)) (fun W l o' hl x => (World.putObj_heap_other (by omega)).trans x) rfl
    (fun k W => ∃ v, CAt w W w.heap.size (w.heap.size + 1 + 1) (w.heap.size + 3) n v ((cv m n).take k)) (fun k X Y hX hL => by obtain ⟨v, hX⟩ := hX; exact ⟨v, hX.loose (by omega) hL⟩) ⟨_, HC.out⟩
    (fun x y => { tmps := #[.int .i64 (m : Int), .int .i64 (n : Int), undef, undef, .slice none 0 0, .pointer (some ⟨w.heap.size, 0, none⟩), undef, .int .i64 y, .int .i64 (m : Int), .int .i64 (n : Int), .int .i64 0, .bool false, .int .i64 (m : Int), .int .i64 (n : Int),
      .func (.func 9) #[] #[.pointer (some ⟨w.heap.size + 1, 0, none⟩), .pointer (some ⟨w.heap.size + 1 + 1, 0, none⟩)], .int .i64 x, .int .i64 y, undef, undef, undef, undef, undef], defers := [] }) ?assign ?body ?done
  case assign =>
    intro l x y W K hK
    gi_wp2
    exact hK
  case body =>
    rintro l k W ⟨v, hC⟩ hk
    have hkl : ((cv m n).take k).length = k := by rw [List.length_take]; omega
    have hc := hC.box.cell
    have hrow := hC.own
    have hle := hC.le
    have hk25 := HLEN.out
    have HCC := Lib.hid hC
    have HG := Lib.hid (HGET.out k hk)
    rw [hkl] at hrow
    clear hC HSEQ HC HGET
    generalize hx : cz m n k = x at *
    clear hx
    generalize hq : (cv m n).length = q at *
    clear hq
    gi_wp2_with (gi_at_builtin; refine wpListIn_append_own _ rfl _ _ 23 rfl (w.heap.size + 3) 3 i0 (.int .i64 0) 1 8 Try.underlying23 HI.out.1 HI.out.2.1 HI.out.2.2.1 HI.out.2.2.2 rfl (by decide) v k (nums ((cv m n).take k)) rfl (hrow.alloc _) ⟨W.heap.size, 0, none⟩ 1 1 [.int .i64 (x : Int)] rfl rfl (cells_new W #[.int .i64 (x : Int)] 3) (by simp [Value.oneCell']) (by unfold maxLen; omega) (by omega) (by simp; omega) ?_; intro v' w1 hown' hgrow _; obtain ⟨g', cap', rfl⟩ := ownsRow_succ hown'; obtain ⟨hv1, hC1, hK1⟩ := HCC.out.more (x := x) (Nat.le_refl _) (by omega) (by omega) (by omega) (by rw [hkl]; exact hown') hgrow; have hc1 := hv1.cell; have hf1 := hv1.frozen)
    refine ⟨?_, fun _ => hC1.num, .slice (some ⟨g', 0, none⟩) (k + 1) cap', ?_⟩
    · rw [hVs]; exact hK1
    · rw [← HG.out]; exact hC1
  case done =>
    rintro D W' hD ⟨v, hC⟩ hKd
    have hlast := hC.loose (by omega) (Loose.put (.deferred none) hD hKd rfl)
    have hc := hC.box.cell
    rw [List.take_length] at hlast
    have HL := Lib.hid hlast
    have HKD := Lib.hid hKd
    clear hlast hC hKd HSEQ HC
    gi_wp2
    refine ⟨by simp, .inl ⟨_, _, rfl, run_takeDeferred HKD.out, ?_⟩⟩
    exact ⟨_, results_tmp rfl _ _ _, ⟨_, rfl, own_lower HL.out.own (by omega), HL.out.low⟩⟩
end Go.Proofs.Ytdmaipebckbmpaa
