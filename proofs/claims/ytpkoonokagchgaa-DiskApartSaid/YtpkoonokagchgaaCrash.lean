/- What Crash and Sync of package disk answer of a right disk. -/
import Derived.Test.YtpkoonokagchgaaImage
namespace Go.Proofs.Ytpkoonokagchgaa
open Go.ChangeShapes Go.WideShapes Go.ChangeAt Go.RowKit Go.Shelf

theorem RowI.blk {W : World} {A : Option Addr} {c : Nat} {l : List Int} (h : RowI W A c l) (hl : 0 < l.length) : blkLt A W.heap.size := fun b hb => by
  obtain ⟨b', off, h1, h2, _⟩ := h.cell (j := 0) hl
  subst h1
  simp only [Option.map_some, Option.some.injEq] at hb
  omega

theorem done_torn (d : Dk) (hd : Ok d) (ks : List Int) (kA : Option Addr) (kc : Nat) (wA : Option Addr) (wc : Nat) (KA : Option Addr) (KC : Nat) (w : World) (hA : At w d kA kc wA wc) (hm : d.ws.length ≤ 1000000) (hK : RowI w KA KC ks) (hKC : KC ≤ 9223372036854775807)
    (Bk Bb : Nat) (hb : Bx w Bb 23 #[.slice wA d.ws.length wc]) (hp : Bx w Bk 26 #[.slice KA ks.length KC]) :
    Calls Try.prog 40 #[.slice kA d.ks.length kc, .func (.func 58) #[] #[.pointer (some ⟨Bk, 0, none⟩), .pointer (some ⟨Bb, 0, none⟩)]] w fun e w' => ∃ A' c', e = .returned (.slice A' d.ks.length c') ∧ RowT w' A' c' (crashD d ks) ∧ NewA w A' ∧ Below w.heap.size w w' :=
  done_any 58 _ (enters_of Try.func58 (by kernel_rfl) rfl) (tears d.ws ks) d.ks kA kc w hA.rowT hd.n1 hd.n2 hd.sized (tears_fit hd.fit ks) fun W hW =>
    torn_in 7 (by omega) Bb Bk w.heap.size wA KA wc KC d.ws ks W (hb.below hW) (hp.below hW) hb.lt hp.lt (hA.rowW.below hW) (fun hl => hA.rowW.blk hl) (hK.below hW) (fun hl => hK.blk hl) hW.size hm hKC

theorem next4' {w V W : World} {a0 a1 a2 : Addr} {v0 v1 v2 : Value} (h : W.cell? a0 = some v0 ∧ W.cell? a1 = some v1 ∧ W.cell? a2 = some v2 ∧ Below w.heap.size w W) (hb : Below W.heap.size W V) :
    V.cell? a0 = some v0 ∧ V.cell? a1 = some v1 ∧ V.cell? a2 = some v2 ∧ Below w.heap.size w V :=
  ⟨(hb.cell (cell_lt h.1)).trans h.1, (hb.cell (cell_lt h.2.1)).trans h.2.1, (hb.cell (cell_lt h.2.2.1)).trans h.2.2.1, below_trans h.2.2.2 hb⟩

/-- The box of a disk that came in, and the one for what goes out. -/
theorem two_boxes (w : World) (a b c d : Value) : ∃ V, (w.alloc (.cells #[a, b, c, d] 25)).alloc (.cells #[.int .i64 0, .slice none 0 0, .slice none 0 0, .bool false] 25) = V ∧ Bx V w.heap.size 25 #[a, b, c, d] ∧ Bx V (w.heap.size + 1) 25 #[.int .i64 0, .slice none 0 0, .slice none 0 0, .bool false] ∧ Below w.heap.size w V := by
  refine ⟨_, rfl, (Bx.new w 25 _).below (alloc_below _ _), ?_, (alloc_below w _).alloc (by simp) _⟩
  have := Bx.new (w.alloc (.cells #[a, b, c, d] 25)) 25 #[.int .i64 0, .slice none 0 0, .slice none 0 0, .bool false]
  simpa using this

set_option maxHeartbeats 4000000 in
set_option maxRecDepth 100000 in
theorem crash_any (d : Dk) (hd : Ok d) (ks : List Int) (kA : Option Addr) (kc : Nat) (wA : Option Addr) (wc : Nat) (KA : Option Addr) (KC : Nat) (w : World) (hA : At w d kA kc wA wc) (hm : d.ws.length ≤ 1000000) (hK : RowI w KA KC ks) (hKC : KC ≤ 9223372036854775807) :
    Calls Try.prog 22 #[dval d kA kc wA wc, .slice KA ks.length KC] w fun e w' => ∃ A' c', e = .returned (.agg #[.int .i64 d.sz, .slice A' d.ks.length c', .slice none 0 0, .bool false]) ∧ RowT w' A' c' (crashD d ks) ∧ NewA w A' ∧ Below w.heap.size w w' := by
  have HDN : Hid (∀ W Bk Bb, Below w.heap.size w W → Bx W Bb 23 #[.slice wA d.ws.length wc] → Bx W Bk 26 #[.slice KA ks.length KC] → Calls Try.prog 40 #[.slice kA d.ks.length kc, .func (.func 58) #[] #[.pointer (some ⟨Bk, 0, none⟩), .pointer (some ⟨Bb, 0, none⟩)]] W fun e w' => ∃ A' c', e = .returned (.slice A' d.ks.length c') ∧ RowT w' A' c' (crashD d ks) ∧ NewA W A' ∧ Below W.heap.size W w') :=
    Lib.hid fun W Bk Bb hW hb hp => done_torn d hd ks kA kc wA wc KA KC W (hA.below hW) hm (hK.below hW) hKC Bk Bb hb hp
  clear hA hd hm hK hKC
  unfold dval
  generalize d.ks.length = n at *
  generalize d.ws.length = m at *
  generalize ks.length = q at *
  generalize crashD d ks = L at *
  generalize d.sz = sz at *
  generalize d.off = off at *
  go_enter Try.func22, Try.ntmps22
  go_wp2_with fail
  obtain ⟨V, hV, X1, X2, B1⟩ := two_boxes w (.int .i64 sz) (.slice kA n kc) (.slice wA m wc) (.bool off)
  rw [hV]
  clear hV
  obtain ⟨x0, x1, x2, x3⟩ := X1.four
  have S0 : V.drew.cell? ⟨w.heap.size, 0, none⟩ = some (.int .i64 sz) ∧ V.drew.cell? ⟨w.heap.size, 1, none⟩ = some (.slice kA n kc) ∧ V.drew.cell? ⟨w.heap.size, 2, none⟩ = some (.slice wA m wc) ∧ Below w.heap.size w V.drew := ⟨x0, x1, x2, B1.drew⟩
  have HX2 : Hid (Bx V.drew (w.heap.size + 1) 25 #[.int .i64 0, .slice none 0 0, .slice none 0 0, .bool false]) := Lib.hid X2
  clear X1 X2 B1 x0 x1 x2 x3
  go_region_held3 (fun W => W.cell? ⟨w.heap.size, 0, none⟩ = some (.int .i64 sz) ∧ W.cell? ⟨w.heap.size, 1, none⟩ = some (.slice kA n kc) ∧ W.cell? ⟨w.heap.size, 2, none⟩ = some (.slice wA m wc) ∧ Below w.heap.size w W)
    (first
      | assumption
      | exact next4' S0 (by assumption)
      | exact next4' (by assumption) (by assumption)
      | exact S0
      | (refine ⟨?_, ?_, ?_, ?_⟩; (simp [go_sem, *]); (simp [go_sem, *]); (simp [go_sem, *]); (exact four_below (And.right (And.right (And.right (by assumption)))) (by omega) _ _ _ _)))
    (first
      | (go_at_call 44; (with_reducible refine (tornF_any _ _ _ _ _ _ _).mono ?_); rintro e w' ⟨Bk, Bb, rfl, hbx, hbk, hb'⟩)
      | (go_at_call 40; (with_reducible refine (HDN.out _ _ _ (And.right (And.right (And.right (by assumption)))) (by assumption) (by assumption)).mono ?_); rintro e w'' ⟨A', c', rfl, hr, hnw, hb''⟩; obtain ⟨y0, y1, y2, y3⟩ := ((HX2.out.below (W' := w') hb').below (W' := w'') hb'').four; have y4 := ((HX2.out.below (W' := w') hb').below (W' := w'') hb'').frozen))
  rename_i hS
  have B9 := hS.2.2.2
  have N9 : NewA w A' := hnw.mono (Nat.le_trans S0.2.2.2.size hb'.size)
  have R9 := hr.four (hnw.ne (HX2.out.below (W' := w') hb').lt) (.int .i64 sz) (.slice A' n c') (.slice none 0 0) (.bool false)
  go_wp2_with fail
  exact bodyPost_ret (v := .agg #[.int .i64 sz, .slice A' n c', .slice none 0 0, .bool false]) (by simp [results, Try.results22, go_sem, *]) rfl ⟨A', c', rfl, R9, N9, B9⟩
end Go.Proofs.Ytpkoonokagchgaa
