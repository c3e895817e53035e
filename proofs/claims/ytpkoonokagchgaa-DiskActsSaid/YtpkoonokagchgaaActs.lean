/-
  DiskActs returns true for every disk, row of numbers, text and three numbers: what is read, written, synced and left by a crash is as the document says; so is a new disk, and which disks are right.
  Conditions: none (every input).
-/
import Derived.Test.YtpkoonokagchgaaActsPre
namespace Go.Proofs.Ytpkoonokagchgaa.diskActs
open Go.ChangeShapes Go.WideShapes Go.ChangeAt Go.RowKit Go.Joins

/-- The rows that the law's last lines read. -/
structure Rows (W : World) (d : Dk) (kA : Option Addr) (kc : Nat) (wA : Option Addr) (wc : Nat) (dw : Dk) (k20 : Option Addr) (c20 : Nat) (w20 : Option Addr) (v20 : Nat) (k22 : Option Addr) (c22 : Nat) (w22 : Option Addr) (v22 : Nat)
    (ds : Dk) (k24 : Option Addr) (c24 : Nat) (w24 : Option Addr) (v24 : Nat) (k26 : Option Addr) (c26 : Nat) (w26 : Option Addr) (v26 : Nat) (KA : Option Addr) (KC : Nat) (ks : List Int) : Prop where
  d : At W d kA kc wA wc
  a20 : At W dw k20 c20 w20 v20
  a22 : At W dw k22 c22 w22 v22
  a24 : At W ds k24 c24 w24 v24
  a26 : At W ds k26 c26 w26 v26
  k : RowI W KA KC ks
theorem Rows.below {W W' : World} {d : Dk} {kA : Option Addr} {kc : Nat} {wA : Option Addr} {wc : Nat} {dw : Dk} {k20 : Option Addr} {c20 : Nat} {w20 : Option Addr} {v20 : Nat} {k22 : Option Addr} {c22 : Nat} {w22 : Option Addr} {v22 : Nat}
    {ds : Dk} {k24 : Option Addr} {c24 : Nat} {w24 : Option Addr} {v24 : Nat} {k26 : Option Addr} {c26 : Nat} {w26 : Option Addr} {v26 : Nat} {KA : Option Addr} {KC : Nat} {ks : List Int}
    (h : Rows W d kA kc wA wc dw k20 c20 w20 v20 k22 c22 w22 v22 ds k24 c24 w24 v24 k26 c26 w26 v26 KA KC ks) (hb : Below W.heap.size W W') : Rows W' d kA kc wA wc dw k20 c20 w20 v20 k22 c22 w22 v22 ds k24 c24 w24 v24 k26 c26 w26 v26 KA KC ks :=
  ⟨h.d.below hb, h.a20.below hb, h.a22.below hb, h.a24.below hb, h.a26.below hb, h.k.below hb⟩

/-- A new disk, by the program and by the document: the same value. -/
theorem new_both (many size : Int) : ∃ (gs : Int) (gn : Nat) (gL : List ByteArray) (gE : Int), gL.length = gn ∧ gn ≤ 4096 ∧
    (∀ W, Calls Try.prog 11 #[.int .i64 many, .int .i64 size] W fun e w' => ∃ A c, e = .returned (.tuple #[.agg #[.int .i64 gs, .slice A gn c, .slice none 0 0, .bool false], .int .i64 gE]) ∧ RowT w' A c gL ∧ Below W.heap.size W w') ∧
    (∀ W, Calls Try.prog 12 #[.int .i64 many, .int .i64 size] W fun e w' => ∃ A c, e = .returned (.tuple #[.agg #[.int .i64 gs, .slice A gn c, .slice none 0 0, .bool false], .int .i64 gE]) ∧ RowT w' A c gL ∧ Below W.heap.size W w') := by
  cases h : shapedB many size
  · exact ⟨0, 0, [], 1, rfl, by decide, fun W => (new_no many size W h).mono fun e w' ⟨h1, h2⟩ => ⟨none, 0, h1, RowT.nil w', h2⟩, fun W => (refNew_no many size W h).mono fun e w' ⟨h1, h2⟩ => ⟨none, 0, h1, RowT.nil w', h2⟩⟩
  · obtain ⟨h1, h2, h3, h4⟩ := shapedB_iff.1 h
    obtain ⟨m, rfl⟩ : ∃ m : Nat, many = (m : Int) := ⟨many.toNat, by omega⟩
    obtain ⟨s, rfl⟩ : ∃ s : Nat, size = (s : Int) := ⟨size.toNat, by omega⟩
    exact ⟨(s : Int), m, List.replicate m (zeros s), 0, by simp, by omega, fun W => (new_yes m s W (by omega) (by omega) (by omega) (by omega)).mono fun e w' ⟨A, h1, h2, h3⟩ => ⟨A, m, h1, h2, h3⟩,
      fun W => (refNew_yes m s W (by omega) (by omega) (by omega) (by omega)).mono fun e w' ⟨A, c, h1, h2, h3⟩ => ⟨A, c, h1, h2, h3⟩⟩

/-- A write, by the program and by the document: the same disk, the same number. -/
theorem write_both (d : Dk) (p : Int) (s : ByteArray) (hk : d.ks.length ≤ 40) (hm : d.ws.length ≤ 40) : ∃ (dw : Dk) (E : Int), dw.ks.length = d.ks.length ∧ dw.sz = d.sz ∧ dw.ws.length ≤ 41 ∧
    (∀ W kA kc wA wc, At W d kA kc wA wc → Calls Try.prog 18 #[dval d kA kc wA wc, .int .i64 p, .string s] W fun e w' => ∃ kA' kc' wA' wc', e = .returned (.tuple #[dval dw kA' kc' wA' wc', .int .i64 E]) ∧ At w' dw kA' kc' wA' wc' ∧ Below W.heap.size W w') ∧
    (∀ W kA kc wA wc, At W d kA kc wA wc → Calls Try.prog 19 #[dval d kA kc wA wc, .int .i64 p, .string s] W fun e w' => ∃ kA' kc' wA' wc', e = .returned (.tuple #[dval dw kA' kc' wA' wc', .int .i64 E]) ∧ At w' dw kA' kc' wA' wc' ∧ Below W.heap.size W w') := by
  by_cases h : writeE d p s = 0
  · exact ⟨more d p s, 0, rfl, rfl, by have := snoc_length d.ws ⟨p, s⟩ _ rfl; show (d.ws ++ [_]).length ≤ 41; omega,
      fun W kA kc wA wc hA => (write_yes d p s kA kc wA wc W hA (by omega) (by omega) h).mono fun e w' ⟨a, b, c, f, h1, h2, _, _, h3⟩ => ⟨a, b, c, f, h1, h2, h3⟩,
      fun W kA kc wA wc hA => (refWrite_yes d p s kA kc wA wc W hA (by omega) h).mono fun e w' ⟨c, f, h1, h2, h3⟩ => ⟨kA, kc, c, f, h1, h2, h3⟩⟩
  · exact ⟨d, writeE d p s, rfl, rfl, by omega, fun W kA kc wA wc hA => write_no d p s kA kc wA wc W hA (by omega) (by omega) h,
      fun W kA kc wA wc hA => (refWrite_no d p s kA kc wA wc W hA h).mono fun e w' ⟨h1, h2, h3⟩ => ⟨kA, kc, wA, wc, h1, h2, h3⟩⟩

/-- A sync, by the program and by the document: the same disk, the same number. -/
theorem sync_both (d : Dk) (hd : Ok d) (hk : d.ks.length ≤ 40) (hm : d.ws.length ≤ 40) : ∃ (ds : Dk) (E : Int), ds.ks.length = d.ks.length ∧ ds.sz = d.sz ∧ ds.ws.length ≤ 41 ∧
    (∀ W kA kc wA wc, At W d kA kc wA wc → Calls Try.prog 20 #[dval d kA kc wA wc] W fun e w' => ∃ kA' kc' wA' wc', e = .returned (.tuple #[dval ds kA' kc' wA' wc', .int .i64 E]) ∧ At w' ds kA' kc' wA' wc' ∧ Below W.heap.size W w') ∧
    (∀ W kA kc wA wc, At W d kA kc wA wc → Calls Try.prog 21 #[dval d kA kc wA wc] W fun e w' => ∃ kA' kc' wA' wc', e = .returned (.tuple #[dval ds kA' kc' wA' wc', .int .i64 E]) ∧ At w' ds kA' kc' wA' wc' ∧ Below W.heap.size W w') := by
  cases ho : d.off
  · have hl : (wipe d (imageD d)).ks.length = d.ks.length := imageD_length d
    refine ⟨wipe d (imageD d), 0, hl, rfl, by show 0 ≤ 41; decide, fun W kA kc wA wc hA => ?_, fun W kA kc wA wc hA => ?_⟩
    · have := sync_on d hd kA kc wA wc W hA (by omega) ho
      rw [← hl] at this
      exact this.mono fun e w' ⟨a, b, h1, h2, _, h3⟩ => ⟨a, b, none, 0, h1, at_of h2 (RowW.nil w'), h3⟩
    · have := refSync_any d hd kA kc wA wc W hA (by omega) ho
      rw [← hl] at this
      exact this.mono fun e w' ⟨a, b, h1, h2, h3⟩ => ⟨a, b, none, 0, h1, at_of h2 (RowW.nil w'), h3⟩
  · exact ⟨d, 14, rfl, rfl, by omega, fun W kA kc wA wc hA => sync_off d kA kc wA wc W hA (by omega) (by omega) ho, fun W kA kc wA wc hA => (refSync_off d kA kc wA wc W hA ho).mono fun e w' ⟨h1, h2, h3⟩ => ⟨kA, kc, wA, wc, h1, h2, h3⟩⟩

set_option maxHeartbeats 12000000 in
set_option maxRecDepth 100000 in
theorem walk (d : Dk) (p many size : Int) (s : ByteArray) (ks : List Int) (kA : Option Addr) (kc : Nat) (wA : Option Addr) (wc : Nat) (KA : Option Addr) (KC : Nat) (w : World) (hA : At w d kA kc wA wc) (hK : RowI w KA KC ks) (hKC : KC ≤ 9223372036854775807) :
    Calls Try.prog 3 #[.agg #[.int .i64 d.sz, .slice kA d.ks.length kc, .slice wA d.ws.length wc, .bool d.off, .int .i64 p, .string s, .slice KA ks.length KC, .int .i64 many, .int .i64 size]] w fun e w' => e = .returned (.bool true) ∧ Below w.heap.size w w' := by
  obtain ⟨F, hF⟩ := few_is d
  obtain ⟨R, hR⟩ := ok_is d
  obtain ⟨gs, gn, gL, gE, hgl, hg4, hg1, hg2⟩ := new_both many size
  have HG1 := Lib.hid hg1
  have HG2 := Lib.hid hg2
  have HG3 : Hid (∀ W A c B e0, RowT W A c gL → RowT W B e0 gL → Calls Try.prog 13 #[.agg #[.int .i64 gs, .slice A gn c, .slice none 0 0, .bool false], .agg #[.int .i64 gs, .slice B gn e0, .slice none 0 0, .bool false]] W fun e w' => e = .returned (.bool true) ∧ Below W.heap.size W w') := Lib.hid fun W A c B e0 h1 h2 => by
    subst hgl
    exact same_yes ⟨gs, gL, [], false⟩ A c none 0 B e0 none 0 W (at_of h1 (RowW.nil W)) (at_of h2 (RowW.nil W)) (by show gL.length ≤ _; omega) (by show 0 ≤ 1000000; decide)
  obtain ⟨n, hn⟩ : ∃ n, d.ks.length = n := ⟨_, rfl⟩
  obtain ⟨m, hm⟩ : ∃ m, d.ws.length = m := ⟨_, rfl⟩
  obtain ⟨q, hq⟩ : ∃ q, ks.length = q := ⟨_, rfl⟩
  obtain ⟨sz, hs⟩ : ∃ sz, d.sz = sz := ⟨_, rfl⟩
  obtain ⟨off, ho⟩ : ∃ off, d.off = off := ⟨_, rfl⟩
  have HFEW : Hid (∀ W, Below w.heap.size w W → Calls Try.prog 14 #[.agg #[.int .i64 sz, .slice kA n kc, .slice wA m wc, .bool off]] W fun e w' => e = .returned (.bool F) ∧ Below W.heap.size W w') := Lib.hid fun W hW => by
    subst hn hm hs ho
    exact few_any d F hF kA kc wA wc W (hA.below hW)
  have HRT : Hid (n ≤ 40 → m ≤ 40 → ∀ W, Below w.heap.size w W → Calls Try.prog 15 #[.agg #[.int .i64 sz, .slice kA n kc, .slice wA m wc, .bool off]] W fun e w' => e = .returned (.bool R) ∧ Below W.heap.size W w') := Lib.hid fun h1 h2 W hW => by
    subst hn hm hs ho
    exact (right_any d kA kc wA wc W (hA.below hW) (by omega) (by omega)).mono fun e w' ⟨⟨B, hB, hBB⟩, hb⟩ => by
      have : B = R := by
        cases B <;> cases R <;> simp_all
      rw [this] at hB
      exact ⟨hB, hb⟩
  have HD3 : Hid (DB ((w.alloc (.cells #[.int .i64 sz, .slice kA n kc, .slice wA m wc, .bool off, .int .i64 p, .string s, .slice KA q KC, .int .i64 many, .int .i64 size] 28)).alloc (.cells #[.int .i64 sz, .slice kA n kc, .slice wA m wc, .bool off] 25)) (w.heap.size + 1) d sz n m kA kc wA wc off) := Lib.hid (by
    have := DB.new (hA.below (alloc_below w (.cells #[.int .i64 sz, .slice kA n kc, .slice wA m wc, .bool off, .int .i64 p, .string s, .slice KA q KC, .int .i64 many, .int .i64 size] 28))) sz n m off
    simpa using this)
  have HB0 : Hid (Below w.heap.size w ((w.alloc (.cells #[.int .i64 sz, .slice kA n kc, .slice wA m wc, .bool off, .int .i64 p, .string s, .slice KA q KC, .int .i64 many, .int .i64 size] 28)).alloc (.cells #[.int .i64 sz, .slice kA n kc, .slice wA m wc, .bool off] 25))) := Lib.hid ((alloc_below w _).alloc (by simp) _)
  rw [hn, hm, hq, hs, ho]
  by_cases hT : F = true
  · obtain ⟨f1, f2, hd⟩ := hF.1 hT
    subst hT
    obtain rfl : R = true := hR.2 hd
    have hn40 : n ≤ 40 := by omega
    have hm40 : m ≤ 40 := by omega
    have HRT2 := Lib.hid (HRT.out hn40 hm40)
    obtain ⟨dw, Ew, hw1, hw2, hw3, hw4, hw5⟩ := write_both d p s (by omega) (by omega)
    obtain ⟨ds, Es, hs1, hs2, hs3, hs4, hs5⟩ := sync_both d hd (by omega) (by omega)
    obtain ⟨mw, hmw⟩ : ∃ mw, dw.ws.length = mw := ⟨_, rfl⟩
    obtain ⟨ow, how⟩ : ∃ ow, dw.off = ow := ⟨_, rfl⟩
    obtain ⟨ms, hms⟩ : ∃ ms, ds.ws.length = ms := ⟨_, rfl⟩
    obtain ⟨os, hos⟩ : ∃ os, ds.off = os := ⟨_, rfl⟩
    rw [hn] at hw1 hs1
    rw [hs] at hw2 hs2
    have hlc : (wipe d (crashD d ks)).ks.length = n := by rw [← hn]; exact crashD_length d ks
    have hli : (imageD d).length = n := by rw [imageD_length]; exact hn
    have C18 : Hid (∀ W, At W d kA kc wA wc → Calls Try.prog 18 #[.agg #[.int .i64 sz, .slice kA n kc, .slice wA m wc, .bool off], .int .i64 p, .string s] W fun e w' => ∃ kA' kc' wA' wc', e = .returned (.tuple #[.agg #[.int .i64 sz, .slice kA' n kc', .slice wA' mw wc', .bool ow], .int .i64 Ew]) ∧ At w' dw kA' kc' wA' wc' ∧ Below W.heap.size W w') := Lib.hid fun W h => by
      have := hw4 W kA kc wA wc h
      unfold dval at this
      rw [hn, hm, hs, ho, hw1, hw2, hmw, how] at this
      exact this
    have C19 : Hid (∀ W, At W d kA kc wA wc → Calls Try.prog 19 #[.agg #[.int .i64 sz, .slice kA n kc, .slice wA m wc, .bool off], .int .i64 p, .string s] W fun e w' => ∃ kA' kc' wA' wc', e = .returned (.tuple #[.agg #[.int .i64 sz, .slice kA' n kc', .slice wA' mw wc', .bool ow], .int .i64 Ew]) ∧ At w' dw kA' kc' wA' wc' ∧ Below W.heap.size W w') := Lib.hid fun W h => by
      have := hw5 W kA kc wA wc h
      unfold dval at this
      rw [hn, hm, hs, ho, hw1, hw2, hmw, how] at this
      exact this
    have C20 : Hid (∀ W, At W d kA kc wA wc → Calls Try.prog 20 #[.agg #[.int .i64 sz, .slice kA n kc, .slice wA m wc, .bool off]] W fun e w' => ∃ kA' kc' wA' wc', e = .returned (.tuple #[.agg #[.int .i64 sz, .slice kA' n kc', .slice wA' ms wc', .bool os], .int .i64 Es]) ∧ At w' ds kA' kc' wA' wc' ∧ Below W.heap.size W w') := Lib.hid fun W h => by
      have := hs4 W kA kc wA wc h
      unfold dval at this
      rw [hn, hm, hs, ho, hs1, hs2, hms, hos] at this
      exact this
    have C21 : Hid (∀ W, At W d kA kc wA wc → Calls Try.prog 21 #[.agg #[.int .i64 sz, .slice kA n kc, .slice wA m wc, .bool off]] W fun e w' => ∃ kA' kc' wA' wc', e = .returned (.tuple #[.agg #[.int .i64 sz, .slice kA' n kc', .slice wA' ms wc', .bool os], .int .i64 Es]) ∧ At w' ds kA' kc' wA' wc' ∧ Below W.heap.size W w') := Lib.hid fun W h => by
      have := hs5 W kA kc wA wc h
      unfold dval at this
      rw [hn, hm, hs, ho, hs1, hs2, hms, hos] at this
      exact this
    have C16 : Hid (∀ W, At W d kA kc wA wc → Calls Try.prog 16 #[.agg #[.int .i64 sz, .slice kA n kc, .slice wA m wc, .bool off], .int .i64 p] W fun e w' => e = .returned (.tuple #[.string (readT d p), .int .i64 (reachE off n p)]) ∧ Below W.heap.size W w') := Lib.hid fun W h => by
      subst hn hm hs ho
      exact read_any d hd p kA kc wA wc W h (by omega)
    have C17 : Hid (∀ W, At W d kA kc wA wc → Calls Try.prog 17 #[.agg #[.int .i64 sz, .slice kA n kc, .slice wA m wc, .bool off], .int .i64 p] W fun e w' => e = .returned (.tuple #[.string (readT d p), .int .i64 (reachE off n p)]) ∧ Below W.heap.size W w') := Lib.hid fun W h => by
      subst hn hm hs ho
      exact refRead_any d hd p kA kc wA wc W h (by omega)
    have C13w : Hid (∀ W kA kc wA wc kB ke wB we, At W dw kA kc wA wc → At W dw kB ke wB we → Calls Try.prog 13 #[.agg #[.int .i64 sz, .slice kA n kc, .slice wA mw wc, .bool ow], .agg #[.int .i64 sz, .slice kB n ke, .slice wB mw we, .bool ow]] W fun e w' => e = .returned (.bool true) ∧ Below W.heap.size W w') := Lib.hid fun W kA kc wA wc kB ke wB we h1 h2 => by
      have := same_yes dw kA kc wA wc kB ke wB we W h1 h2 (by omega) (by omega)
      unfold dval at this
      rw [hw1, hw2, hmw, how] at this
      exact this
    have C13s : Hid (∀ W kA kc wA wc kB ke wB we, At W ds kA kc wA wc → At W ds kB ke wB we → Calls Try.prog 13 #[.agg #[.int .i64 sz, .slice kA n kc, .slice wA ms wc, .bool os], .agg #[.int .i64 sz, .slice kB n ke, .slice wB ms we, .bool os]] W fun e w' => e = .returned (.bool true) ∧ Below W.heap.size W w') := Lib.hid fun W kA kc wA wc kB ke wB we h1 h2 => by
      have := same_yes ds kA kc wA wc kB ke wB we W h1 h2 (by omega) (by omega)
      unfold dval at this
      rw [hs1, hs2, hms, hos] at this
      exact this
    have C22 : Hid (∀ W, At W d kA kc wA wc → RowI W KA KC ks → Calls Try.prog 22 #[.agg #[.int .i64 sz, .slice kA n kc, .slice wA m wc, .bool off], .slice KA q KC] W fun e w' => ∃ A' c', e = .returned (.agg #[.int .i64 sz, .slice A' n c', .slice none 0 0, .bool false]) ∧ RowT w' A' c' (crashD d ks) ∧ Below W.heap.size W w') := Lib.hid fun W h hk => by
      subst hn hm hs ho hq
      exact (crash_any d hd ks kA kc wA wc KA KC W h (by omega) hk hKC).mono fun e w' ⟨A', c', h1, h2, _, h3⟩ => ⟨A', c', h1, h2, h3⟩
    have C23 : Hid (∀ W, At W d kA kc wA wc → RowI W KA KC ks → Calls Try.prog 23 #[.agg #[.int .i64 sz, .slice kA n kc, .slice wA m wc, .bool off], .slice KA q KC] W fun e w' => ∃ A' c', e = .returned (.agg #[.int .i64 sz, .slice A' n c', .slice none 0 0, .bool false]) ∧ RowT w' A' c' (crashD d ks) ∧ Below W.heap.size W w') := Lib.hid fun W h hk => by
      subst hn hm hs ho hq
      exact refCrash_any d hd ks kA kc wA wc KA KC W h (by omega) hk
    have C13c : Hid (∀ W A c B e0, RowT W A c (crashD d ks) → RowT W B e0 (crashD d ks) → Calls Try.prog 13 #[.agg #[.int .i64 sz, .slice A n c, .slice none 0 0, .bool false], .agg #[.int .i64 sz, .slice B n e0, .slice none 0 0, .bool false]] W fun e w' => e = .returned (.bool true) ∧ Below W.heap.size W w') := Lib.hid fun W A c B e0 h1 h2 => by
      have := same_yes (wipe d (crashD d ks)) A c none 0 B e0 none 0 W (at_of h1 (RowW.nil W)) (at_of h2 (RowW.nil W)) (by omega) (by show 0 ≤ 1000000; decide)
      unfold dval at this
      rw [hlc] at this
      subst hs
      exact this
    have C24 : Hid (∀ W, At W d kA kc wA wc → Calls Try.prog 24 #[.agg #[.int .i64 sz, .slice kA n kc, .slice wA m wc, .bool off]] W fun e w' => ∃ kA' kc' wA' wc', e = .returned (.agg #[.int .i64 sz, .slice kA' n kc', .slice wA' m wc', .bool true]) ∧ At w' (cutD d) kA' kc' wA' wc' ∧ Below W.heap.size W w') := Lib.hid fun W h => by
      subst hn hm hs ho
      exact cut_any d kA kc wA wc W h (by omega) (by omega)
    have C25 : Hid (∀ W, At W d kA kc wA wc → Calls Try.prog 25 #[.agg #[.int .i64 sz, .slice kA n kc, .slice wA m wc, .bool off]] W fun e w' => e = .returned (.agg #[.int .i64 sz, .slice kA n kc, .slice wA m wc, .bool true]) ∧ At w' (cutD d) kA kc wA wc ∧ Below W.heap.size W w') := Lib.hid fun W h => by
      subst hn hm hs ho
      exact (refCut_any d kA kc wA wc W).mono fun e w' ⟨h1, h2⟩ => by
        have hb := h.below h2
        exact ⟨h1, ⟨hb.ks, hb.ws, hb.kn, hb.wn, hb.kl, hb.wl⟩, h2⟩
    have C13u : Hid (∀ W kA kc wA wc kB ke wB we, At W (cutD d) kA kc wA wc → At W (cutD d) kB ke wB we → Calls Try.prog 13 #[.agg #[.int .i64 sz, .slice kA n kc, .slice wA m wc, .bool true], .agg #[.int .i64 sz, .slice kB n ke, .slice wB m we, .bool true]] W fun e w' => e = .returned (.bool true) ∧ Below W.heap.size W w') := Lib.hid fun W kA kc wA wc kB ke wB we h1 h2 => by
      subst hn hm hs
      exact same_yes (cutD d) kA kc wA wc kB ke wB we W h1 h2 (by show d.ks.length ≤ _; omega) (by show d.ws.length ≤ _; omega)
    have C27 : Hid (∀ W, At W d kA kc wA wc → Calls Try.prog 27 #[.agg #[.int .i64 sz, .slice kA n kc, .slice wA m wc, .bool off]] W fun e w' => ∃ A' c', e = .returned (.slice A' n c') ∧ RowT w' A' c' (imageD d) ∧ Below W.heap.size W w') := Lib.hid fun W h => by
      subst hn hm hs ho
      exact (image_any d hd kA kc wA wc W h (by omega)).mono fun e w' ⟨A', c', h1, h2, _, h3⟩ => ⟨A', c', h1, h2, h3⟩
    have C28 : Hid (∀ W, At W d kA kc wA wc → Calls Try.prog 28 #[.agg #[.int .i64 sz, .slice kA n kc, .slice wA m wc, .bool off]] W fun e w' => ∃ A' c', e = .returned (.slice A' n c') ∧ RowT w' A' c' (imageD d) ∧ Below W.heap.size W w') := Lib.hid fun W h => by
      subst hn hm hs ho
      exact (refImage_any d hd kA kc wA wc W h (by omega)).mono fun e w' ⟨A', c', h1, h2, _, h3⟩ => ⟨A', c', h1, h2, h3⟩
    have C26 : Hid (∀ W A c B e0, RowT W A c (imageD d) → RowT W B e0 (imageD d) → Calls Try.prog 26 #[.slice A n c, .slice B n e0] W fun e w' => e = .returned (.bool true) ∧ Below W.heap.size W w') := Lib.hid fun W A c B e0 h1 h2 => by
      have := strings_yes A B c e0 (imageD d) W h1 h2 (by omega)
      rw [hli] at this
      exact this
    have HK : Hid (∀ W, Below w.heap.size w W → RowI W KA KC ks) := Lib.hid fun W hW => hK.below hW
    generalize readT d p = X at *
    generalize reachE off n p = G at *
    generalize imageD d = L at *
    generalize crashD d ks = C at *
    generalize cutD d = dc at *
    clear hF hR hn hm hs ho hq f1 f2 hd hA hK hKC hw1 hw2 hw3 hw4 hw5 hs1 hs2 hs3 hs4 hs5 hmw how hms hos hlc hli hgl hg1 hg2 hg4 HRT
    go_enter Try.func3, Try.ntmps3
    go_wp2_with fail
    refine (shown_any _).mono ?_
    rintro e w1 ⟨rfl, hb1⟩
    have HB1 := Lib.hid (below_trans HB0.out hb1)
    have HE1 := Lib.hid (HD3.out.below hb1)
    clear hb1 HD3 HB0
    go_wp2_with fail
    refine (HG1.out _).mono ?_
    rintro e w2 ⟨A10, c10, rfl, hr10, hb2⟩
    have H10 := Lib.hid (BR.new hr10 gs gn)
    have HO2 := Lib.hid (below_trans hb2 (alloc_below w2 (.cells #[.int .i64 gs, .slice A10 gn c10, .slice none 0 0, .bool false] 25)))
    have HE2 := Lib.hid (HE1.out.below HO2.out)
    have HB2 := Lib.hid (below_trans HB1.out HO2.out)
    clear hr10 hb2 HE1 HB1 HO2 HG1
    go_wp2_with fail
    refine (HG2.out _).mono ?_
    rintro e w3 ⟨A12, c12, rfl, hr12, hb3⟩
    have H12 := Lib.hid (BR.new hr12 gs gn)
    have HO3 := Lib.hid (below_trans hb3 (alloc_below w3 (.cells #[.int .i64 gs, .slice A12 gn c12, .slice none 0 0, .bool false] 25)))
    have HE3 := Lib.hid (HE2.out.below HO3.out)
    have H103 := Lib.hid (H10.out.below HO3.out)
    have HB3 := Lib.hid (below_trans HB2.out HO3.out)
    clear hr12 hb3 HE2 HB2 HO3 HG2 H10
    obtain ⟨z0, z1, z2, z3⟩ := H103.out.x.four
    go_wp2_with fail
    refine (HG3.out _ _ _ _ _ H103.out.t H12.out.t).mono ?_
    rintro e w4 ⟨rfl, hb4⟩
    have HE4 := Lib.hid (HE3.out.below hb4)
    have HB4 := Lib.hid (below_trans HB3.out hb4)
    clear hb4 HE3 HB3 H103 H12 HG3 z0 z1 z2 z3
    obtain ⟨z0, z1, z2, z3⟩ := HE4.out.four
    go_wp2_with fail
    refine (HFEW.out _ HB4.out).mono ?_
    rintro e w5 ⟨rfl, hb5⟩
    have HE5 := Lib.hid (HE4.out.below hb5)
    have HB5 := Lib.hid (below_trans HB4.out hb5)
    clear hb5 HE4 HB4 z0 z1 z2 z3 HFEW
    obtain ⟨z0, z1, z2, z3⟩ := HE5.out.four
    go_wp2_with fail
    refine (C16.out _ HE5.out.a).mono ?_
    rintro e w6 ⟨rfl, hb6⟩
    have HE6 := Lib.hid (HE5.out.below hb6)
    have HB6 := Lib.hid (below_trans HB5.out hb6)
    clear hb6 HE5 HB5 z0 z1 z2 z3 C16
    obtain ⟨z0, z1, z2, z3⟩ := HE6.out.four
    go_wp2_with fail
    refine (C17.out _ HE6.out.a).mono ?_
    rintro e w7 ⟨rfl, hb7⟩
    have HE7 := Lib.hid (HE6.out.below hb7)
    have HB7 := Lib.hid (below_trans HB6.out hb7)
    clear hb7 HE6 HB6 z0 z1 z2 z3 C17
    obtain ⟨z0, z1, z2, z3⟩ := HE7.out.four
    go_wp2_with fail
    refine (C18.out _ HE7.out.a).mono ?_
    rintro e w8 ⟨k20, c20, w20, v20, rfl, hat, hb8⟩
    have H20 := Lib.hid (DB.new hat sz n mw ow)
    have HO8 := Lib.hid (below_trans hb8 (alloc_below w8 (.cells #[.int .i64 sz, .slice k20 n c20, .slice w20 mw v20, .bool ow] 25)))
    have HE8 := Lib.hid (HE7.out.below HO8.out)
    have HB8 := Lib.hid (below_trans HB7.out HO8.out)
    clear hat hb8 HE7 HB7 HO8 z0 z1 z2 z3 C18
    obtain ⟨z0, z1, z2, z3⟩ := HE8.out.four
    go_wp2_with fail
    refine (C19.out _ HE8.out.a).mono ?_
    rintro e w9 ⟨k22, c22, w22, v22, rfl, hat, hb9⟩
    have H22 := Lib.hid (DB.new hat sz n mw ow)
    have HO9 := Lib.hid (below_trans hb9 (alloc_below w9 (.cells #[.int .i64 sz, .slice k22 n c22, .slice w22 mw v22, .bool ow] 25)))
    have HE9 := Lib.hid (HE8.out.below HO9.out)
    have H209 := Lib.hid (H20.out.below HO9.out)
    have HB9 := Lib.hid (below_trans HB8.out HO9.out)
    clear hat hb9 HE8 HB8 HO9 H20 z0 z1 z2 z3 C19
    obtain ⟨z0, z1, z2, z3⟩ := HE9.out.four
    go_wp2_with fail
    refine (C20.out _ HE9.out.a).mono ?_
    rintro e w10 ⟨k24, c24, w24, v24, rfl, hat, hb10⟩
    have H24 := Lib.hid (DB.new hat sz n ms os)
    have HO10 := Lib.hid (below_trans hb10 (alloc_below w10 (.cells #[.int .i64 sz, .slice k24 n c24, .slice w24 ms v24, .bool os] 25)))
    have HE10 := Lib.hid (HE9.out.below HO10.out)
    have H2010 := Lib.hid (H209.out.below HO10.out)
    have H2210 := Lib.hid (H22.out.below HO10.out)
    have HB10 := Lib.hid (below_trans HB9.out HO10.out)
    clear hat hb10 HE9 HB9 HO10 H209 H22 z0 z1 z2 z3 C20
    obtain ⟨z0, z1, z2, z3⟩ := HE10.out.four
    go_wp2_with fail
    refine (C21.out _ HE10.out.a).mono ?_
    rintro e w11 ⟨k26, c26, w26, v26, rfl, hat, hb11⟩
    have H26 := Lib.hid (DB.new hat sz n ms os)
    have HO11 := Lib.hid (below_trans hb11 (alloc_below w11 (.cells #[.int .i64 sz, .slice k26 n c26, .slice w26 ms v26, .bool os] 25)))
    have HE11 := Lib.hid (HE10.out.below HO11.out)
    have H2011 := Lib.hid (H2010.out.below HO11.out)
    have H2211 := Lib.hid (H2210.out.below HO11.out)
    have H2411 := Lib.hid (H24.out.below HO11.out)
    have HB11 := Lib.hid (below_trans HB10.out HO11.out)
    clear hat hb11 HE10 HB10 HO11 H2010 H2210 H24 z0 z1 z2 z3 C21
    go_upto_region 22 with fail
    obtain ⟨U, hU⟩ : ∃ U, w11.alloc (.cells #[.int .i64 sz, .slice k26 n c26, .slice w26 ms v26, .bool os] 25) = U := ⟨_, rfl⟩
    rw [hU] at H26 HE11 H2011 H2211 H2411 HB11 ⊢
    clear hU
    generalize w11.heap.size = r26 at *
    generalize w10.heap.size = r24 at *
    generalize w9.heap.size = r22 at *
    generalize w8.heap.size = r20 at *
    have HS0 : Hid (Below w.heap.size w U ∧ FourAt (w.heap.size + 1) (.int .i64 sz) (.slice kA n kc) (.slice wA m wc) (.bool off) U ∧ FourAt r20 (.int .i64 sz) (.slice k20 n c20) (.slice w20 mw v20) (.bool ow) U ∧ FourAt r22 (.int .i64 sz) (.slice k22 n c22) (.slice w22 mw v22) (.bool ow) U ∧ FourAt r24 (.int .i64 sz) (.slice k24 n c24) (.slice w24 ms v24) (.bool os) U ∧ FourAt r26 (.int .i64 sz) (.slice k26 n c26) (.slice w26 ms v26) (.bool os) U ∧ Rows U d kA kc wA wc dw k20 c20 w20 v20 k22 c22 w22 v22 ds k24 c24 w24 v24 k26 c26 w26 v26 KA KC ks) := Lib.hid ⟨HB11.out, HE11.out.four, H2011.out.four, H2211.out.four, H2411.out.four, H26.out.four, HE11.out.a, H2011.out.a, H2211.out.a, H2411.out.a, H26.out.a, HK.out _ HB11.out⟩
    have NX : Hid (∀ W W', (fun W => Below w.heap.size w W ∧ FourAt (w.heap.size + 1) (.int .i64 sz) (.slice kA n kc) (.slice wA m wc) (.bool off) W ∧ FourAt r20 (.int .i64 sz) (.slice k20 n c20) (.slice w20 mw v20) (.bool ow) W ∧ FourAt r22 (.int .i64 sz) (.slice k22 n c22) (.slice w22 mw v22) (.bool ow) W ∧ FourAt r24 (.int .i64 sz) (.slice k24 n c24) (.slice w24 ms v24) (.bool os) W ∧ FourAt r26 (.int .i64 sz) (.slice k26 n c26) (.slice w26 ms v26) (.bool os) W ∧ Rows W d kA kc wA wc dw k20 c20 w20 v20 k22 c22 w22 v22 ds k24 c24 w24 v24 k26 c26 w26 v26 KA KC ks) W → Below W.heap.size W W' → (fun W => Below w.heap.size w W ∧ FourAt (w.heap.size + 1) (.int .i64 sz) (.slice kA n kc) (.slice wA m wc) (.bool off) W ∧ FourAt r20 (.int .i64 sz) (.slice k20 n c20) (.slice w20 mw v20) (.bool ow) W ∧ FourAt r22 (.int .i64 sz) (.slice k22 n c22) (.slice w22 mw v22) (.bool ow) W ∧ FourAt r24 (.int .i64 sz) (.slice k24 n c24) (.slice w24 ms v24) (.bool os) W ∧ FourAt r26 (.int .i64 sz) (.slice k26 n c26) (.slice w26 ms v26) (.bool os) W ∧ Rows W d kA kc wA wc dw k20 c20 w20 v20 k22 c22 w22 v22 ds k24 c24 w24 v24 k26 c26 w26 v26 KA KC ks) W') := Lib.hid fun W W' h hb =>
      ⟨below_trans h.1 hb, four_next h.2.1 hb, four_next h.2.2.1 hb, four_next h.2.2.2.1 hb, four_next h.2.2.2.2.1 hb, four_next h.2.2.2.2.2.1 hb, h.2.2.2.2.2.2.below hb⟩
    have H8d := Lib.hid (NX.out _ _ HS0.out (drew_below U))
    have D13w : Hid (∀ W, (fun W => Below w.heap.size w W ∧ FourAt (w.heap.size + 1) (.int .i64 sz) (.slice kA n kc) (.slice wA m wc) (.bool off) W ∧ FourAt r20 (.int .i64 sz) (.slice k20 n c20) (.slice w20 mw v20) (.bool ow) W ∧ FourAt r22 (.int .i64 sz) (.slice k22 n c22) (.slice w22 mw v22) (.bool ow) W ∧ FourAt r24 (.int .i64 sz) (.slice k24 n c24) (.slice w24 ms v24) (.bool os) W ∧ FourAt r26 (.int .i64 sz) (.slice k26 n c26) (.slice w26 ms v26) (.bool os) W ∧ Rows W d kA kc wA wc dw k20 c20 w20 v20 k22 c22 w22 v22 ds k24 c24 w24 v24 k26 c26 w26 v26 KA KC ks) W → Calls Try.prog 13 #[.agg #[.int .i64 sz, .slice k20 n c20, .slice w20 mw v20, .bool ow], .agg #[.int .i64 sz, .slice k22 n c22, .slice w22 mw v22, .bool ow]] W fun e w' => e = .returned (.bool true) ∧ Below W.heap.size W w') := Lib.hid fun W h => C13w.out W _ _ _ _ _ _ _ _ h.2.2.2.2.2.2.a20 h.2.2.2.2.2.2.a22
    have D13s : Hid (∀ W, (fun W => Below w.heap.size w W ∧ FourAt (w.heap.size + 1) (.int .i64 sz) (.slice kA n kc) (.slice wA m wc) (.bool off) W ∧ FourAt r20 (.int .i64 sz) (.slice k20 n c20) (.slice w20 mw v20) (.bool ow) W ∧ FourAt r22 (.int .i64 sz) (.slice k22 n c22) (.slice w22 mw v22) (.bool ow) W ∧ FourAt r24 (.int .i64 sz) (.slice k24 n c24) (.slice w24 ms v24) (.bool os) W ∧ FourAt r26 (.int .i64 sz) (.slice k26 n c26) (.slice w26 ms v26) (.bool os) W ∧ Rows W d kA kc wA wc dw k20 c20 w20 v20 k22 c22 w22 v22 ds k24 c24 w24 v24 k26 c26 w26 v26 KA KC ks) W → Calls Try.prog 13 #[.agg #[.int .i64 sz, .slice k24 n c24, .slice w24 ms v24, .bool os], .agg #[.int .i64 sz, .slice k26 n c26, .slice w26 ms v26, .bool os]] W fun e w' => e = .returned (.bool true) ∧ Below W.heap.size W w') := Lib.hid fun W h => C13s.out W _ _ _ _ _ _ _ _ h.2.2.2.2.2.2.a24 h.2.2.2.2.2.2.a26
    have D22 : Hid (∀ W, (fun W => Below w.heap.size w W ∧ FourAt (w.heap.size + 1) (.int .i64 sz) (.slice kA n kc) (.slice wA m wc) (.bool off) W ∧ FourAt r20 (.int .i64 sz) (.slice k20 n c20) (.slice w20 mw v20) (.bool ow) W ∧ FourAt r22 (.int .i64 sz) (.slice k22 n c22) (.slice w22 mw v22) (.bool ow) W ∧ FourAt r24 (.int .i64 sz) (.slice k24 n c24) (.slice w24 ms v24) (.bool os) W ∧ FourAt r26 (.int .i64 sz) (.slice k26 n c26) (.slice w26 ms v26) (.bool os) W ∧ Rows W d kA kc wA wc dw k20 c20 w20 v20 k22 c22 w22 v22 ds k24 c24 w24 v24 k26 c26 w26 v26 KA KC ks) W → Calls Try.prog 22 #[.agg #[.int .i64 sz, .slice kA n kc, .slice wA m wc, .bool off], .slice KA q KC] W fun e w' => ∃ A' c', e = .returned (.agg #[.int .i64 sz, .slice A' n c', .slice none 0 0, .bool false]) ∧ RowT w' A' c' C ∧ Below W.heap.size W w') := Lib.hid fun W h => C22.out W h.2.2.2.2.2.2.d h.2.2.2.2.2.2.k
    have D23 : Hid (∀ W, (fun W => Below w.heap.size w W ∧ FourAt (w.heap.size + 1) (.int .i64 sz) (.slice kA n kc) (.slice wA m wc) (.bool off) W ∧ FourAt r20 (.int .i64 sz) (.slice k20 n c20) (.slice w20 mw v20) (.bool ow) W ∧ FourAt r22 (.int .i64 sz) (.slice k22 n c22) (.slice w22 mw v22) (.bool ow) W ∧ FourAt r24 (.int .i64 sz) (.slice k24 n c24) (.slice w24 ms v24) (.bool os) W ∧ FourAt r26 (.int .i64 sz) (.slice k26 n c26) (.slice w26 ms v26) (.bool os) W ∧ Rows W d kA kc wA wc dw k20 c20 w20 v20 k22 c22 w22 v22 ds k24 c24 w24 v24 k26 c26 w26 v26 KA KC ks) W → Calls Try.prog 23 #[.agg #[.int .i64 sz, .slice kA n kc, .slice wA m wc, .bool off], .slice KA q KC] W fun e w' => ∃ A' c', e = .returned (.agg #[.int .i64 sz, .slice A' n c', .slice none 0 0, .bool false]) ∧ RowT w' A' c' C ∧ Below W.heap.size W w') := Lib.hid fun W h => C23.out W h.2.2.2.2.2.2.d h.2.2.2.2.2.2.k
    have D24 : Hid (∀ W, (fun W => Below w.heap.size w W ∧ FourAt (w.heap.size + 1) (.int .i64 sz) (.slice kA n kc) (.slice wA m wc) (.bool off) W ∧ FourAt r20 (.int .i64 sz) (.slice k20 n c20) (.slice w20 mw v20) (.bool ow) W ∧ FourAt r22 (.int .i64 sz) (.slice k22 n c22) (.slice w22 mw v22) (.bool ow) W ∧ FourAt r24 (.int .i64 sz) (.slice k24 n c24) (.slice w24 ms v24) (.bool os) W ∧ FourAt r26 (.int .i64 sz) (.slice k26 n c26) (.slice w26 ms v26) (.bool os) W ∧ Rows W d kA kc wA wc dw k20 c20 w20 v20 k22 c22 w22 v22 ds k24 c24 w24 v24 k26 c26 w26 v26 KA KC ks) W → Calls Try.prog 24 #[.agg #[.int .i64 sz, .slice kA n kc, .slice wA m wc, .bool off]] W fun e w' => ∃ kA' kc' wA' wc', e = .returned (.agg #[.int .i64 sz, .slice kA' n kc', .slice wA' m wc', .bool true]) ∧ At w' dc kA' kc' wA' wc' ∧ Below W.heap.size W w') := Lib.hid fun W h => C24.out W h.2.2.2.2.2.2.d
    have D25 : Hid (∀ W, (fun W => Below w.heap.size w W ∧ FourAt (w.heap.size + 1) (.int .i64 sz) (.slice kA n kc) (.slice wA m wc) (.bool off) W ∧ FourAt r20 (.int .i64 sz) (.slice k20 n c20) (.slice w20 mw v20) (.bool ow) W ∧ FourAt r22 (.int .i64 sz) (.slice k22 n c22) (.slice w22 mw v22) (.bool ow) W ∧ FourAt r24 (.int .i64 sz) (.slice k24 n c24) (.slice w24 ms v24) (.bool os) W ∧ FourAt r26 (.int .i64 sz) (.slice k26 n c26) (.slice w26 ms v26) (.bool os) W ∧ Rows W d kA kc wA wc dw k20 c20 w20 v20 k22 c22 w22 v22 ds k24 c24 w24 v24 k26 c26 w26 v26 KA KC ks) W → Calls Try.prog 25 #[.agg #[.int .i64 sz, .slice kA n kc, .slice wA m wc, .bool off]] W fun e w' => e = .returned (.agg #[.int .i64 sz, .slice kA n kc, .slice wA m wc, .bool true]) ∧ At w' dc kA kc wA wc ∧ Below W.heap.size W w') := Lib.hid fun W h => C25.out W h.2.2.2.2.2.2.d
    have D27 : Hid (∀ W, (fun W => Below w.heap.size w W ∧ FourAt (w.heap.size + 1) (.int .i64 sz) (.slice kA n kc) (.slice wA m wc) (.bool off) W ∧ FourAt r20 (.int .i64 sz) (.slice k20 n c20) (.slice w20 mw v20) (.bool ow) W ∧ FourAt r22 (.int .i64 sz) (.slice k22 n c22) (.slice w22 mw v22) (.bool ow) W ∧ FourAt r24 (.int .i64 sz) (.slice k24 n c24) (.slice w24 ms v24) (.bool os) W ∧ FourAt r26 (.int .i64 sz) (.slice k26 n c26) (.slice w26 ms v26) (.bool os) W ∧ Rows W d kA kc wA wc dw k20 c20 w20 v20 k22 c22 w22 v22 ds k24 c24 w24 v24 k26 c26 w26 v26 KA KC ks) W → Calls Try.prog 27 #[.agg #[.int .i64 sz, .slice kA n kc, .slice wA m wc, .bool off]] W fun e w' => ∃ A' c', e = .returned (.slice A' n c') ∧ RowT w' A' c' L ∧ Below W.heap.size W w') := Lib.hid fun W h => C27.out W h.2.2.2.2.2.2.d
    have D28 : Hid (∀ W, (fun W => Below w.heap.size w W ∧ FourAt (w.heap.size + 1) (.int .i64 sz) (.slice kA n kc) (.slice wA m wc) (.bool off) W ∧ FourAt r20 (.int .i64 sz) (.slice k20 n c20) (.slice w20 mw v20) (.bool ow) W ∧ FourAt r22 (.int .i64 sz) (.slice k22 n c22) (.slice w22 mw v22) (.bool ow) W ∧ FourAt r24 (.int .i64 sz) (.slice k24 n c24) (.slice w24 ms v24) (.bool os) W ∧ FourAt r26 (.int .i64 sz) (.slice k26 n c26) (.slice w26 ms v26) (.bool os) W ∧ Rows W d kA kc wA wc dw k20 c20 w20 v20 k22 c22 w22 v22 ds k24 c24 w24 v24 k26 c26 w26 v26 KA KC ks) W → Calls Try.prog 28 #[.agg #[.int .i64 sz, .slice kA n kc, .slice wA m wc, .bool off]] W fun e w' => ∃ A' c', e = .returned (.slice A' n c') ∧ RowT w' A' c' L ∧ Below W.heap.size W w') := Lib.hid fun W h => C28.out W h.2.2.2.2.2.2.d
    clear H26 HE11 H2011 H2211 H2411 HB11 C13w C13s C22 C23 C24 C25 C27 C28 HK
    go_region_held3 (fun W => Below w.heap.size w W ∧ FourAt (w.heap.size + 1) (.int .i64 sz) (.slice kA n kc) (.slice wA m wc) (.bool off) W ∧ FourAt r20 (.int .i64 sz) (.slice k20 n c20) (.slice w20 mw v20) (.bool ow) W ∧ FourAt r22 (.int .i64 sz) (.slice k22 n c22) (.slice w22 mw v22) (.bool ow) W ∧ FourAt r24 (.int .i64 sz) (.slice k24 n c24) (.slice w24 ms v24) (.bool os) W ∧ FourAt r26 (.int .i64 sz) (.slice k26 n c26) (.slice w26 ms v26) (.bool os) W ∧ Rows W d kA kc wA wc dw k20 c20 w20 v20 k22 c22 w22 v22 ds k24 c24 w24 v24 k26 c26 w26 v26 KA KC ks)
      (first
        | assumption
        | exact NX.out _ _ (by assumption) (by assumption)
        | exact H8d.out
        | exact HS0.out)
      (first
        | (go_at_call 13; (with_reducible refine (D13w.out _ (by first | assumption | exact H8d.out)).mono ?_); rintro e w' ⟨rfl, hb'⟩)
        | (go_at_call 13; (with_reducible refine (D13s.out _ (by assumption)).mono ?_); rintro e w' ⟨rfl, hb'⟩)
        | (go_at_call 22; (with_reducible refine (D22.out _ (by assumption)).mono ?_); rintro e w' ⟨A1, c1, rfl, hr1, hb1⟩)
        | (go_at_call 23; (with_reducible refine (D23.out _ (by assumption)).mono ?_); rintro e w' ⟨A2, c2, rfl, hr2, hb2⟩)
        | (go_at_call 13; (with_reducible refine (C13c.out _ _ _ _ _ (hr1.below hb2) hr2).mono ?_); rintro e w' ⟨rfl, hb'⟩)
        | (go_at_call 24; (with_reducible refine (D24.out _ (by assumption)).mono ?_); rintro e w' ⟨A3, c3, B3, e3, rfl, hr3, hb3⟩)
        | (go_at_call 25; (with_reducible refine (D25.out _ (by assumption)).mono ?_); rintro e w' ⟨rfl, hr4, hb4⟩)
        | (go_at_call 13; (with_reducible refine (C13u.out _ _ _ _ _ _ _ _ _ (hr3.below hb4) hr4).mono ?_); rintro e w' ⟨rfl, hb'⟩)
        | (go_at_call 27; (with_reducible refine (D27.out _ (by assumption)).mono ?_); rintro e w' ⟨A5, c5, rfl, hr5, hb5⟩)
        | (go_at_call 28; (with_reducible refine (D28.out _ (by assumption)).mono ?_); rintro e w' ⟨A6, c6, rfl, hr6, hb6⟩)
        | (go_at_call 26; (with_reducible refine (C26.out _ _ _ _ _ (hr5.below hb6) hr6).mono ?_); rintro e w' ⟨rfl, hb'⟩))
    rename_i hfin
    rename World => Y
    have HZ0 := Lib.hid hfin
    obtain ⟨z0, z1, z2, z3⟩ := hfin.2.1
    clear hfin H8d HS0 NX D13w D13s D22 D23 D24 D25 D27 D28 C13c C13u C26
    go_wp2_with fail
    refine (HRT2.out _ HZ0.out.1).mono ?_
    rintro e w12 ⟨rfl, hb12⟩
    have HB12 := Lib.hid (below_trans HZ0.out.1 hb12)
    clear hb12 z0 z1 z2 z3 HZ0
    go_wp2
    go_ret
    exact ⟨by simp, HB12.out⟩
  · obtain rfl : F = false := by cases F <;> simp_all
    have hno : Hid (n ≤ 40 → m ≤ 40 → R = false) := Lib.hid fun h1 h2 => by
      cases R
      · rfl
      · exact absurd (hF.2 ⟨by omega, by omega, hR.1 rfl⟩) (by decide)
    clear hF hR hT hn hm hs ho hq hA hK hKC hgl hg1 hg2 hg4
    by_cases g1 : 40 < n
    · go_enter Try.func3, Try.ntmps3
      go_wp2_with fail
      refine (shown_any _).mono ?_
      rintro e w1 ⟨rfl, hb1⟩
      have HB1 := Lib.hid (below_trans HB0.out hb1)
      have HE1 := Lib.hid (HD3.out.below hb1)
      clear hb1 HD3 HB0
      go_wp2_with fail
      refine (HG1.out _).mono ?_
      rintro e w2 ⟨A10, c10, rfl, hr10, hb2⟩
      have H10 := Lib.hid (BR.new hr10 gs gn)
      have HO2 := Lib.hid (below_trans hb2 (alloc_below w2 (.cells #[.int .i64 gs, .slice A10 gn c10, .slice none 0 0, .bool false] 25)))
      have HE2 := Lib.hid (HE1.out.below HO2.out)
      have HB2 := Lib.hid (below_trans HB1.out HO2.out)
      clear hr10 hb2 HE1 HB1 HO2 HG1
      go_wp2_with fail
      refine (HG2.out _).mono ?_
      rintro e w3 ⟨A12, c12, rfl, hr12, hb3⟩
      have H12 := Lib.hid (BR.new hr12 gs gn)
      have HO3 := Lib.hid (below_trans hb3 (alloc_below w3 (.cells #[.int .i64 gs, .slice A12 gn c12, .slice none 0 0, .bool false] 25)))
      have HE3 := Lib.hid (HE2.out.below HO3.out)
      have H103 := Lib.hid (H10.out.below HO3.out)
      have HB3 := Lib.hid (below_trans HB2.out HO3.out)
      clear hr12 hb3 HE2 HB2 HO3 HG2 H10
      obtain ⟨z0, z1, z2, z3⟩ := H103.out.x.four
      go_wp2_with fail
      refine (HG3.out _ _ _ _ _ H103.out.t H12.out.t).mono ?_
      rintro e w4 ⟨rfl, hb4⟩
      have HE4 := Lib.hid (HE3.out.below hb4)
      have HB4 := Lib.hid (below_trans HB3.out hb4)
      clear hb4 HE3 HB3 H103 H12 HG3 z0 z1 z2 z3
      obtain ⟨z0, z1, z2, z3⟩ := HE4.out.four
      go_wp2_with fail
      refine (HFEW.out _ HB4.out).mono ?_
      rintro e w5 ⟨rfl, hb5⟩
      have HE5 := Lib.hid (HE4.out.below hb5)
      have HB5 := Lib.hid (below_trans HB4.out hb5)
      clear hb5 HE4 HB4 z0 z1 z2 z3 HFEW
      obtain ⟨z0, z1, z2, z3⟩ := HE5.out.four
      go_wp2
      go_ret
      exact ⟨by simp, HB5.out⟩
    by_cases g2 : 40 < m
    · go_enter Try.func3, Try.ntmps3
      go_wp2_with fail
      refine (shown_any _).mono ?_
      rintro e w1 ⟨rfl, hb1⟩
      have HB1 := Lib.hid (below_trans HB0.out hb1)
      have HE1 := Lib.hid (HD3.out.below hb1)
      clear hb1 HD3 HB0
      go_wp2_with fail
      refine (HG1.out _).mono ?_
      rintro e w2 ⟨A10, c10, rfl, hr10, hb2⟩
      have H10 := Lib.hid (BR.new hr10 gs gn)
      have HO2 := Lib.hid (below_trans hb2 (alloc_below w2 (.cells #[.int .i64 gs, .slice A10 gn c10, .slice none 0 0, .bool false] 25)))
      have HE2 := Lib.hid (HE1.out.below HO2.out)
      have HB2 := Lib.hid (below_trans HB1.out HO2.out)
      clear hr10 hb2 HE1 HB1 HO2 HG1
      go_wp2_with fail
      refine (HG2.out _).mono ?_
      rintro e w3 ⟨A12, c12, rfl, hr12, hb3⟩
      have H12 := Lib.hid (BR.new hr12 gs gn)
      have HO3 := Lib.hid (below_trans hb3 (alloc_below w3 (.cells #[.int .i64 gs, .slice A12 gn c12, .slice none 0 0, .bool false] 25)))
      have HE3 := Lib.hid (HE2.out.below HO3.out)
      have H103 := Lib.hid (H10.out.below HO3.out)
      have HB3 := Lib.hid (below_trans HB2.out HO3.out)
      clear hr12 hb3 HE2 HB2 HO3 HG2 H10
      obtain ⟨z0, z1, z2, z3⟩ := H103.out.x.four
      go_wp2_with fail
      refine (HG3.out _ _ _ _ _ H103.out.t H12.out.t).mono ?_
      rintro e w4 ⟨rfl, hb4⟩
      have HE4 := Lib.hid (HE3.out.below hb4)
      have HB4 := Lib.hid (below_trans HB3.out hb4)
      clear hb4 HE3 HB3 H103 H12 HG3 z0 z1 z2 z3
      obtain ⟨z0, z1, z2, z3⟩ := HE4.out.four
      go_wp2_with fail
      refine (HFEW.out _ HB4.out).mono ?_
      rintro e w5 ⟨rfl, hb5⟩
      have HE5 := Lib.hid (HE4.out.below hb5)
      have HB5 := Lib.hid (below_trans HB4.out hb5)
      clear hb5 HE4 HB4 z0 z1 z2 z3 HFEW
      obtain ⟨z0, z1, z2, z3⟩ := HE5.out.four
      go_wp2
      go_ret
      exact ⟨by simp, HB5.out⟩
    obtain rfl : R = false := hno.out (by omega) (by omega)
    have HRT2 := Lib.hid (HRT.out (by omega) (by omega))
    clear hno HRT
    go_enter Try.func3, Try.ntmps3
    go_wp2_with fail
    refine (shown_any _).mono ?_
    rintro e w1 ⟨rfl, hb1⟩
    have HB1 := Lib.hid (below_trans HB0.out hb1)
    have HE1 := Lib.hid (HD3.out.below hb1)
    clear hb1 HD3 HB0
    go_wp2_with fail
    refine (HG1.out _).mono ?_
    rintro e w2 ⟨A10, c10, rfl, hr10, hb2⟩
    have H10 := Lib.hid (BR.new hr10 gs gn)
    have HO2 := Lib.hid (below_trans hb2 (alloc_below w2 (.cells #[.int .i64 gs, .slice A10 gn c10, .slice none 0 0, .bool false] 25)))
    have HE2 := Lib.hid (HE1.out.below HO2.out)
    have HB2 := Lib.hid (below_trans HB1.out HO2.out)
    clear hr10 hb2 HE1 HB1 HO2 HG1
    go_wp2_with fail
    refine (HG2.out _).mono ?_
    rintro e w3 ⟨A12, c12, rfl, hr12, hb3⟩
    have H12 := Lib.hid (BR.new hr12 gs gn)
    have HO3 := Lib.hid (below_trans hb3 (alloc_below w3 (.cells #[.int .i64 gs, .slice A12 gn c12, .slice none 0 0, .bool false] 25)))
    have HE3 := Lib.hid (HE2.out.below HO3.out)
    have H103 := Lib.hid (H10.out.below HO3.out)
    have HB3 := Lib.hid (below_trans HB2.out HO3.out)
    clear hr12 hb3 HE2 HB2 HO3 HG2 H10
    obtain ⟨z0, z1, z2, z3⟩ := H103.out.x.four
    go_wp2_with fail
    refine (HG3.out _ _ _ _ _ H103.out.t H12.out.t).mono ?_
    rintro e w4 ⟨rfl, hb4⟩
    have HE4 := Lib.hid (HE3.out.below hb4)
    have HB4 := Lib.hid (below_trans HB3.out hb4)
    clear hb4 HE3 HB3 H103 H12 HG3 z0 z1 z2 z3
    obtain ⟨z0, z1, z2, z3⟩ := HE4.out.four
    go_wp2_with fail
    refine (HFEW.out _ HB4.out).mono ?_
    rintro e w5 ⟨rfl, hb5⟩
    have HE5 := Lib.hid (HE4.out.below hb5)
    have HB5 := Lib.hid (below_trans HB4.out hb5)
    clear hb5 HE4 HB4 z0 z1 z2 z3 HFEW
    obtain ⟨z0, z1, z2, z3⟩ := HE5.out.four
    go_wp2_with fail
    refine (HRT2.out _ HB5.out).mono ?_
    rintro e w6 ⟨rfl, hb6⟩
    have HB6 := Lib.hid (below_trans HB5.out hb6)
    clear hb6 HE5 HB5 z0 z1 z2 z3
    go_wp2
    go_ret
    exact ⟨by simp, HB6.out⟩

set_option maxRecDepth 100000 in
theorem lifted (os : Os) (started : os.Started) (H : Type) (enc : TypeId × Value → H) :
    ReturnsInHanded {} Try.checked os 3 .any (Rows.diskActsSpec.pre6 enc Try.prog Try.f3 Rows.diskActsRow.domain false) (Rows.diskActsSpec.post enc Try.prog Try.f3 false true false false) := by
  refine returnsInHanded_of_change (C := Try.checked) own started (by kernel_rfl) Try.func3
    (ChangeSpec.witness6 (enc := enc) (C := Try.checked) false ⟨#[], #[.agg #[.int .i64 0, .slice none 0 0, .slice none 0 0, .bool false, .int .i64 0, .string ByteArray.empty, .slice none 0 0, .int .i64 0, .int .i64 0]], []⟩ 8 (by kernel_rfl) (by kernel_rfl) (by kernel_rfl) (by kernel_rfl)) ?_
  intro W base args ds gs before hval0 hW hcnd _
  have hval : ∀ (j : Nat) t v, Try.f3.params[j]? = some t → args[j]? = some v → Value.okWide Try.prog W .any base t v := hval0
  have hW' := hW
  obtain ⟨p, q, hA0, hV, rfl, hfz, hnd⟩ := hW
  have hA : DataW.TrodAll enc Try.prog W 0 (fun _ => true) true Try.f3.params.toList args.toList ds p := hA0
  rw [Try.params3] at hA hval
  obtain ⟨v0, vs0, d0, ds0, p0, q0, hargs, rfl, rfl, h0, r0⟩ := trodAll_cons hA
  obtain ⟨rfl, rfl, rfl⟩ := trodAll_nil r0
  obtain rfl : args = #[v0] := by cases args; simp_all
  obtain ⟨rfl, rfl⟩ := trodVars_none hV
  have lt0 : ∀ x ∈ p0, x.block < W.heap.size := by obtain ⟨m, hm⟩ := h0; exact DataW.trod_lt m _ _ _ hm
  obtain ⟨d, kA, kc, wA, wc, a1, s2, KA, KC, ks, a4, a5, rfl, hat, hk, hKC⟩ := open_acts (hval 0 28 v0 rfl rfl) h0
  clear hA0 hval0
  refine (walk d a1 a4 a5 s2 ks kA kc wA wc KA KC W hat hk hKC).mono fun e W' ⟨he, bel⟩ => ?_
  subst he
  exact ⟨_, rfl, _, _, _, [], _, [], hW', trodAll_mk1 (shut_bool Try.underlying4 _), (trodAll_cons_mk (Below.trod laidOut (by kernel_rfl) (of_decide_eq_true (by kernel_rfl)) h0 bel lt0) trodAll_mk0), rfl, bel.frame _, fun h => by cases h⟩

theorem over : Rows.diskActsRow.holds Try.pinned (OpenSpec.ofChange Rows.diskActsSpec) :=
  OpenClaim.holds_of_wide 3 Try.f3 rfl rfl rfl rfl rfl rfl rfl ⟨rfl, rfl, rfl, rfl, rfl⟩ rfl rfl rfl rfl rfl (by kernel_rfl) Try.func3 (by kernel_rfl)
    (of_decide_eq_true (by kernel_rfl)) (by unfold Func.isWrapper; first | (rw [if_pos (by decide +kernel)]; kernel_rfl) | (rw [if_neg (by decide +kernel)]; exact ⟨rfl, rfl⟩))
    (fun os started H enc _ => lifted os started H enc)

theorem proved : Rows.DiskActsSaid := over
#print axioms proved
end Go.Proofs.Ytpkoonokagchgaa.diskActs
