/- The texts ShownFits, Walk, one behind the other. -/
import Derived.Test.YtmmghppjhmdikaaGreatDoorAF21
import Derived.Test.YtmmghppjhmdikaaGreatDoorAF28
import Derived.Test.YtmmghppjhmdikaaGreatDoorAF50
import Derived.Test.YtmmghppjhmdikaaGreatDoorAF27
/- The head of the statement ('shown'): a height of 7 may not be, and the message fits. Conditions: the tables stand. -/
namespace Go.Proofs.YtmmghppjhmdikaaGreatDoor.Bf
open Go.ChangeShapes Go.WideShapes Go.ChangeAt Go.RowKit Go.Great

/-- The message at the head. -/
def S1 : List UInt8 := [60, 49, 62, 49, 32, 45, 32, 45, 32, 45, 32, 45, 32, 45, 32, 45]
theorem u1 : untilL [60] (S1, true) = ([], [49, 62, 49, 32, 45, 32, 45, 32, 45, 32, 45, 32, 45, 32, 45], true) := by decide
theorem u2 : untilL [62] ([49, 62, 49, 32, 45, 32, 45, 32, 45, 32, 45, 32, 45, 32, 45], true) = ([49], [49, 32, 45, 32, 45, 32, 45, 32, 45, 32, 45, 32, 45], true) := by decide
theorem u3 : untilL [32] ([49, 32, 45, 32, 45, 32, 45, 32, 45, 32, 45, 32, 45], true) = ([49], [45, 32, 45, 32, 45, 32, 45, 32, 45, 32, 45], true) := by decide
theorem t1 : toldL ([45, 32, 45, 32, 45, 32, 45, 32, 45, 32, 45], true) = ([], [45, 32, 45, 32, 45, 32, 45, 32, 45], true) := by decide
theorem t2 : toldL ([45, 32, 45, 32, 45, 32, 45, 32, 45], true) = ([], [45, 32, 45, 32, 45, 32, 45], true) := by decide
theorem t3 : toldL ([45, 32, 45, 32, 45, 32, 45], true) = ([], [45, 32, 45, 32, 45], true) := by decide
theorem t4 : toldL ([45, 32, 45, 32, 45], true) = ([], [45, 32, 45], true) := by decide
theorem t5 : toldL ([45, 32, 45], true) = ([], [45], true) := by decide
theorem o1 : originL [49] = some (0, 1) := by decide +kernel
theorem e1 : elementsL [45] = some ([], []) := by decide +kernel
theorem b1 : behindL [] = ([], true) := by decide +kernel
theorem reads1 : Reads S1 1 0 0 false [] [] [] [] [] [] :=
  ⟨_, _, _, _, _, _, _, _, _, _, _, u1, u2, u3, t1, t2, t3, t4, t5, o1, .inl ⟨rfl, rfl, rfl⟩, e1, b1⟩
theorem right1 : rightE ⟨1, 0, false, 0, bytes [], bytes [], bytes [], bytes [], [], bytes []⟩ = 0 := by decide
theorem read1 (w : World) (hS : Std w) (hm : Max w) (hP : Cal.Pow w) (hE : Errs w) :
    Calls Tryz.prog 16 #[.string (bytes S1)] w (Read 1 0 false 0 (bytes []) (bytes []) (bytes []) (bytes []) (bytes []) 0 0 w) :=
  (parse_reads reads1 right1 w hS hm hP hE (by decide)).1.mono fun e w' ⟨la, lc, h1, _, h3⟩ => ⟨la, lc, h1, h3⟩
theorem of1 : ofB 1 0 0 false = ⟨0, 0, 2, 1, 1, false⟩ := by decide
set_option maxHeartbeats 1000000 in
set_option maxRecDepth 100000 in
theorem shown_any (w : World) (hS : Std w) (hm : Max w) (hP : Cal.Pow w) (hE : Errs w) : Calls Tryz.prog 4 #[] w fun e w' => e = .returned (.bool true) ∧ Below w.heap.size w w' := by
  have HF : Hid (∀ W, Below w.heap.size w W → Calls Tryz.prog 6 #[.string ⟨#[60, 49, 62, 49, 32, 45, 32, 45, 32, 45, 32, 45, 32, 45, 32, 45]⟩, .agg #[.int .i64 0, .int .i64 0, .int .u32 2, .int .u32 1, .int .u64 1, .bool false]] W (FitsAns true W)) := Lib.hid fun W hW =>
    fits_good (bytes S1) ⟨0, 0, 2, 1, 1, false⟩ W 1 0 false 0 (bytes []) (bytes []) (bytes []) (bytes []) (bytes []) 0 fun V hV =>
      have hB := hW.trans (hV.mono hW.size)
      read1 V (hS.below hB) (hm.below hB) (hP.below hB) (hE.below hB)
  have HN := Lib.hid (fun W => new_seven W)
  clear hS hm hP hE
  go_enter Tryz.func4, Tryz.ntmps4
  go_wp2_with (refine wpList_buildTo rfl 36 _ rfl _ rfl Z32 (by exact z32_built) ?_)
  refine (HN.out _).mono ?_
  rintro e w2 ⟨rfl, hb⟩
  have B2 := Lib.hid hb
  clear hb HN
  have hz := (zero_of_info infoA).1
  go_wp2_with (refine wpList_store_rowTo rfl 42 _ _ rfl rfl w2.heap.size A0 rfl rfl 42 _ (heap_alloc_last w2 _) (by rw [a0_size]; exact (zero_of_info infoA).2) rfl a0_one ?_; rw [World.setRow_alloc_new])
  have B3 := Lib.hid (B2.out.alloc B2.out.size (.cells A0 42))
  refine (HF.out _ B3.out).mono ?_
  rintro e w4 ⟨rfl, hb⟩
  have B4 := B3.out.trans (hb.mono B3.out.size)
  clear hb HF B2 B3
  go_wp2
  go_ret
  exact ⟨rfl, B4⟩
end Go.Proofs.YtmmghppjhmdikaaGreatDoor.Bf
/- The walk of AuditFits: what is told of a message fits it, whether it is kept or not; nothing fits what is no message. Conditions: the tables stand. -/
namespace Go.Proofs.YtmmghppjhmdikaaGreatDoor.Bf
open Go.ChangeShapes Go.WideShapes Go.ChangeAt Go.RowKit

/-- Six cells of a block hold a brief. -/
abbrev SixAt (n : Nat) (bf bl bg br bm : Int) (bk : Bool) (W : World) : Prop :=
  n < W.heap.size ∧ W.cell? ⟨n, 0, none⟩ = some (.int .i64 bf) ∧ W.cell? ⟨n, 1, none⟩ = some (.int .i64 bl) ∧ W.cell? ⟨n, 2, none⟩ = some (.int .u32 bg) ∧ W.cell? ⟨n, 3, none⟩ = some (.int .u32 br) ∧ W.cell? ⟨n, 4, none⟩ = some (.int .u64 bm) ∧ W.cell? ⟨n, 5, none⟩ = some (.bool bk)
theorem six_below {n : Nat} {bf bl bg br bm : Int} {bk : Bool} {W W' : World} (h : SixAt n bf bl bg br bm bk W) (hb : Below W.heap.size W W') : SixAt n bf bl bg br bm bk W' := by
  obtain ⟨hl, h0, h1, h2, h3, h4, h5⟩ := h
  have hc := (bcell hb).1
  exact ⟨Nat.lt_of_lt_of_le hl hb.size, (hc _ _ hl).trans h0, (hc _ _ hl).trans h1, (hc _ _ hl).trans h2, (hc _ _ hl).trans h3, (hc _ _ hl).trans h4, (hc _ _ hl).trans h5⟩
theorem six_new (W : World) (bf bl bg br bm : Int) (bk : Bool) : SixAt W.heap.size bf bl bg br bm bk (W.alloc (.cells #[.int .i64 bf, .int .i64 bl, .int .u32 bg, .int .u32 br, .int .u64 bm, .bool bk] 25)) := by
  refine ⟨by simp, ?_, ?_, ?_, ?_, ?_, ?_⟩ <;> simp [go_sem]
theorem told_read {g f : Int} {t : Bool} {a : Int} {ho ap pr id : ByteArray} {da : List Elm} {tx : ByteArray} {E : Int} {W w' : World} {e : Ending} (h : Told g f t a ho ap pr id da tx E W e w') : Read g f t a ho ap pr id tx da.length E W e w' := by
  obtain ⟨la, lc, h1, _, h3⟩ := h
  exact ⟨la, lc, h1, h3⟩
set_option maxHeartbeats 1000000 in
set_option maxRecDepth 100000 in
theorem walk_long (s : ByteArray) (bf bl bg br bm : Int) (bk k : Bool) (w : World) (hS : Std w) (hm : Max w) (hP : Cal.Pow w) (hE : Errs w) (hs : 2000 < s.size) :
    Calls Tryz.prog 3 #[.string s, .agg #[.int .i64 bf, .int .i64 bl, .int .u32 bg, .int .u32 br, .int .u64 bm, .bool bk], .bool k] w fun e w' => e = .returned (.bool true) ∧ Below w.heap.size w w' := by
  have HB := Lib.hid ((Below.refl w.heap.size w).alloc (Nat.le_refl _) (.cells #[.int .i64 bf, .int .i64 bl, .int .u32 bg, .int .u32 br, .int .u64 bm, .bool bk] 25))
  have HSH := Lib.hid (fun W (h : Below w.heap.size w W) => shown_any W (hS.below h) (hm.below h) (hP.below h) (hE.below h))
  clear hS hm hP hE
  go_enter Tryz.func3, Tryz.ntmps3
  go_wp2_with fail
  refine (HSH.out _ HB.out).mono ?_
  rintro r w4 ⟨rfl, hb⟩
  have HB4 := Lib.hid (HB.out.trans (hb.mono HB.out.size))
  clear hb HB HSH
  go_wp2
  go_ret
  exact ⟨rfl, HB4.out⟩
set_option maxHeartbeats 4000000 in
set_option maxRecDepth 100000 in
theorem walk_bad (s : ByteArray) (bf bl bg br bm : Int) (bk k : Bool) (w : World) (hS : Std w) (hm : Max w) (hP : Cal.Pow w) (hE : Errs w) (hs : ¬ 2000 < s.size)
    (g f : Int) (t : Bool) (a : Int) (ho ap pr id : ByteArray) (da : List Elm) (tx : ByteArray)
    (C16 : ∀ W, Below w.heap.size w W → Calls Tryz.prog 16 #[.string s] W (Told g f t a ho ap pr id da tx 3 W)) (C5 : ∀ W, Below w.heap.size w W → Calls Tryz.prog 5 #[.string s] W (Told g f t a ho ap pr id da tx 3 W)) :
    Calls Tryz.prog 3 #[.string s, .agg #[.int .i64 bf, .int .i64 bl, .int .u32 bg, .int .u32 br, .int .u64 bm, .bool bk], .bool k] w fun e w' => e = .returned (.bool true) ∧ Below w.heap.size w w' := by
  have HB := Lib.hid ((Below.refl w.heap.size w).alloc (Nat.le_refl _) (.cells #[.int .i64 bf, .int .i64 bl, .int .u32 bg, .int .u32 br, .int .u64 bm, .bool bk] 25))
  have HSH := Lib.hid (fun W (h : Below w.heap.size w W) => shown_any W (hS.below h) (hm.below h) (hP.below h) (hE.below h))
  have D5 := Lib.hid C5
  have D6 : Hid (∀ W, Below w.heap.size w W → Calls Tryz.prog 6 #[.string s, .agg #[.int .i64 bf, .int .i64 bl, .int .u32 bg, .int .u32 br, .int .u64 bm, .bool bk]] W (FitsAns false W)) := Lib.hid fun W hW =>
    fits_bad s ⟨bf, bl, bg, br, bm, bk⟩ W g f t a ho ap pr id tx da.length fun V hV => (C16 V (hW.trans (hV.mono hW.size))).mono fun _ _ h => told_read h
  have HB6 := Lib.hid (six_new w bf bl bg br bm bk)
  clear hS hm hP hE C16 C5
  go_enter Tryz.func3, Tryz.ntmps3
  go_wp2_with fail
  refine (HSH.out _ HB.out).mono ?_
  rintro r w4 ⟨rfl, hb⟩
  have HB4 := Lib.hid (HB.out.trans (hb.mono HB.out.size))
  have H64 := Lib.hid (six_below HB6.out hb)
  clear hb HB HSH HB6
  go_wp2_with fail
  refine (D5.out _ HB4.out).mono ?_
  rintro r w5 ⟨la, lc, rfl, _, hb⟩
  have hbA := hb.alloc hb.size (.cells #[.int .i64 g, .int .i64 f, .bool t, .int .i64 a, .string ho, .string ap, .string pr, .string id, .slice la da.length lc, .string tx] 29)
  have HB5 := Lib.hid (HB4.out.trans (hbA.mono HB4.out.size))
  obtain ⟨z, a0, a1, a2, a3, a4, a5⟩ := six_below H64.out hbA
  clear hb hbA HB4 H64 D5 z
  go_wp2_with fail
  refine (D6.out _ HB5.out).mono ?_
  rintro r w6 ⟨rfl, hb⟩
  have HB6 := Lib.hid (HB5.out.trans (hb.mono HB5.out.size))
  clear hb HB5 a0 a1 a2 a3 a4 a5 D6
  go_wp2
  go_ret
  exact ⟨rfl, HB6.out⟩
set_option maxHeartbeats 8000000 in
set_option maxRecDepth 100000 in
theorem walk_good (s : ByteArray) (bf bl bg br bm : Int) (bk k : Bool) (w : World) (hS : Std w) (hm : Max w) (hP : Cal.Pow w) (hE : Errs w) (hs : ¬ 2000 < s.size)
    (g f : Int) (t : Bool) (a : Int) (ho ap pr id : ByteArray) (da : List Elm) (tx : ByteArray)
    (C16 : ∀ W, Below w.heap.size w W → Calls Tryz.prog 16 #[.string s] W (Told g f t a ho ap pr id da tx 0 W)) (C5 : ∀ W, Below w.heap.size w W → Calls Tryz.prog 5 #[.string s] W (Told g f t a ho ap pr id da tx 0 W)) :
    Calls Tryz.prog 3 #[.string s, .agg #[.int .i64 bf, .int .i64 bl, .int .u32 bg, .int .u32 br, .int .u64 bm, .bool bk], .bool k] w fun e w' => e = .returned (.bool true) ∧ Below w.heap.size w w' := by
  obtain ⟨K, hK⟩ : ∃ K, decide ((⟨bf, bl, bg, br, bm, bk⟩ : Br) = ofB g f a bk) = K := ⟨_, rfl⟩
  have CR : ∀ W, Below w.heap.size w W → Calls Tryz.prog 16 #[.string s] W (Read g f t a ho ap pr id tx da.length 0 W) := fun W hW => (C16 W hW).mono fun _ _ h => told_read h
  have F1 : ∀ b W, Below w.heap.size w W → _ := fun b W hW => fits_good s b W g f t a ho ap pr id tx da.length fun V hV => CR V (hW.trans (hV.mono hW.size))
  have F2 := F1 ⟨bf, bl, bg, br, bm, bk⟩
  have F3 := F1 (ofB g f a k)
  have O7 := fun la lc W => rof_any g f a t ho ap pr id tx la da.length lc k W
  have e3 : decide (ofB g f a k = ofB g f a (ofB g f a k).k) = true := by rw [of_twice]; exact decide_eq_true rfl
  simp only [hK] at F2
  simp only [e3] at F3
  have hcase : K = false ∨ (K = true ∧ bf = (ofB g f a k).f ∧ bg = (ofB g f a k).g ∧ br = (ofB g f a k).r) := by
    cases K
    · exact .inl rfl
    · have h := of_decide_eq_true hK
      obtain ⟨h1, h2, h3⟩ := of_same g f a bk k
      rw [← h] at h1 h2 h3
      exact .inr ⟨rfl, h1, h2, h3⟩
  clear hK e3 F1 CR
  generalize ofB g f a k = o at F3 O7 hcase
  obtain ⟨qf, ql, qg, qr, qm, qk⟩ := o
  have HB := Lib.hid ((Below.refl w.heap.size w).alloc (Nat.le_refl _) (.cells #[.int .i64 bf, .int .i64 bl, .int .u32 bg, .int .u32 br, .int .u64 bm, .bool bk] 25))
  have HSH := Lib.hid (fun W (h : Below w.heap.size w W) => shown_any W (hS.below h) (hm.below h) (hP.below h) (hE.below h))
  have D5 := Lib.hid C5
  have D6 : Hid (∀ W, Below w.heap.size w W → Calls Tryz.prog 6 #[.string s, .agg #[.int .i64 bf, .int .i64 bl, .int .u32 bg, .int .u32 br, .int .u64 bm, .bool bk]] W (FitsAns K W)) := Lib.hid F2
  have D6o : Hid (∀ W, Below w.heap.size w W → Calls Tryz.prog 6 #[.string s, .agg #[.int .i64 qf, .int .i64 ql, .int .u32 qg, .int .u32 qr, .int .u64 qm, .bool qk]] W (FitsAns true W)) := Lib.hid F3
  have D7 : Hid (∀ la lc W, Calls Tryz.prog 7 #[.agg #[.int .i64 g, .int .i64 f, .bool t, .int .i64 a, .string ho, .string ap, .string pr, .string id, .slice la da.length lc, .string tx], .bool k] W fun e w' => e = .returned (.agg #[.int .i64 qf, .int .i64 ql, .int .u32 qg, .int .u32 qr, .int .u64 qm, .bool qk]) ∧ Below W.heap.size W w') := Lib.hid O7
  have HB6 := Lib.hid (six_new w bf bl bg br bm bk)
  have hq : (K = false) ∨ (K = true ∧ (bf == qf) = true ∧ (bg == qg) = true ∧ (br == qr) = true) := by
    rcases hcase with h | ⟨h, h1, h2, h3⟩
    · exact .inl h
    · exact .inr ⟨h, beq_iff_eq.2 h1, beq_iff_eq.2 h2, beq_iff_eq.2 h3⟩
  clear hS hm hP hE C16 C5 F2 F3 O7 hcase
  go_enter Tryz.func3, Tryz.ntmps3
  go_wp2_with fail
  refine (HSH.out _ HB.out).mono ?_
  rintro r w4 ⟨rfl, hb⟩
  have HB4 := Lib.hid (HB.out.trans (hb.mono HB.out.size))
  have H64 := Lib.hid (six_below HB6.out hb)
  clear hb HB HSH HB6
  go_wp2_with fail
  refine (D5.out _ HB4.out).mono ?_
  rintro r w5 ⟨la, lc, rfl, _, hb⟩
  have hbA := hb.alloc hb.size (.cells #[.int .i64 g, .int .i64 f, .bool t, .int .i64 a, .string ho, .string ap, .string pr, .string id, .slice la da.length lc, .string tx] 29)
  have HB5 := Lib.hid (HB4.out.trans (hbA.mono HB4.out.size))
  have H65 := Lib.hid (six_below H64.out hbA)
  clear hb hbA HB4 H64 D5
  go_wp2_with fail
  refine (D7.out _ _ _).mono ?_
  rintro r w7 ⟨rfl, hb⟩
  have hbA := hb.alloc hb.size (.cells #[.int .i64 qf, .int .i64 ql, .int .u32 qg, .int .u32 qr, .int .u64 qm, .bool qk] 25)
  have HB7 := Lib.hid (HB5.out.trans (hbA.mono HB5.out.size))
  have H67 := Lib.hid (six_below H65.out hbA)
  have O67 := Lib.hid (six_new w7 qf ql qg qr qm qk)
  clear hb hbA HB5 H65 D7
  go_wp2_with fail
  refine (D6o.out _ HB7.out).mono ?_
  rintro r w8 ⟨rfl, hb⟩
  have HB8 := Lib.hid (HB7.out.trans (hb.mono HB7.out.size))
  obtain ⟨z, a0, a1, a2, a3, a4, a5⟩ := six_below H67.out hb
  have O68 := Lib.hid (six_below O67.out hb)
  have H68 := Lib.hid (six_below H67.out hb)
  clear hb HB7 H67 O67 D6o z
  go_wp2_with fail
  refine (D6.out _ HB8.out).mono ?_
  rintro r w9 ⟨rfl, hb⟩
  have HB9 := Lib.hid (HB8.out.trans (hb.mono HB8.out.size))
  clear a0 a1 a2 a3 a4 a5
  obtain ⟨z, a0, a1, a2, a3, a4, a5⟩ := six_below H68.out hb
  obtain ⟨y, c0, c1, c2, c3, c4, c5⟩ := six_below O68.out hb
  clear hb HB8 H68 O68 D6 z y
  rcases hq with rfl | ⟨rfl, h1, h2, h3⟩
  all_goals
    go_wp2
    go_ret
    exact ⟨rfl, HB9.out⟩
theorem walk (s : ByteArray) (bf bl bg br bm : Int) (bk k : Bool) (w : World) (hS : Std w) (hm : Max w) (hP : Cal.Pow w) (hE : Errs w) :
    Calls Tryz.prog 3 #[.string s, .agg #[.int .i64 bf, .int .i64 bl, .int .u32 bg, .int .u32 br, .int .u64 bm, .bool bk], .bool k] w fun e w' => e = .returned (.bool true) ∧ Below w.heap.size w w' := by
  by_cases hs : 2000 < s.size
  · exact walk_long s bf bl bg br bm bk k w hS hm hP hE hs
  · obtain ⟨g, f, t, a, ho, ap, pr, id, da, tx, E, _, hE3, C16, C5⟩ := both s w hS hm hP hE (by omega) fun W hW => refParse_any s W (by omega) hW
    rcases hE3 with rfl | rfl
    · exact walk_good s bf bl bg br bm bk k w hS hm hP hE hs g f t a ho ap pr id da tx C16 C5
    · exact walk_bad s bf bl bg br bm bk k w hS hm hP hE hs g f t a ho ap pr id da tx C16 C5
end Go.Proofs.YtmmghppjhmdikaaGreatDoor.Bf
