/- What cal.Parse answers. Conditions: the table of months' lengths stands. -/
import Derived.Test.YtmmghppjhmdikaaGreatDoorAF8
import Derived.Test.YtmmghppjhmdikaaGreatDoorAF1
import Derived.RegionTactic
import Derived.BigRegion
import Derived.ScopeJumps
import Derived.Test.YtmmghppjhmdikaaGreatDoorAF13
import Derived.Test.YtmmghppjhmdikaaGreatDoorAF35
import Derived.WalkMore
namespace Go.Proofs.YtmmghppjhmdikaaGreatDoor.Cal
open Go.ChangeShapes Go.WideShapes Go.ChangeAt Go.RowKit

theorem take_t {sgl : List UInt8} {sg : ByteArray} {k : Nat} {w : World} {o0 o1 : Obj} {r : List UInt8} {f : Bool} {v : Int} {r' : List UInt8} {f' : Bool}
    (h : tk sgl k r f = (v, r', f')) (hsg : sg.data.toList = sgl) (hs : r.length ≤ 9223372036854775807) (hk : k ≤ 6) :
    Calls Tryz.prog 61 #[.string sg, .int .i64 k, .pointer (some ⟨w.heap.size + 1 + 1, 0, none⟩), .pointer (some ⟨w.heap.size + 1 + 1 + 1, 0, none⟩)] ((((w.alloc o0).alloc o1).alloc (.cells #[.string (bytes r)] 9)).alloc (.cells #[.bool f] 4))
      fun e w' => e = .returned (.int .i64 v) ∧ w' = (((w.alloc o0).alloc o1).alloc (.cells #[.string (bytes r')] 9)).alloc (.cells #[.bool f'] 4) := by
  have := take_any sg k w o0 o1 r f hs hk
  rw [hsg, h] at this
  exact this
/-- A take's parts, named. -/
theorem tk_parts (sgl : List UInt8) (k : Nat) (r : List UInt8) (f : Bool) : ∃ v r' f', tk sgl k r f = (v, r', f') ∧ r'.length ≤ r.length ∧ 0 ≤ v ∧ v < (10 : Int) ^ k := by
  refine ⟨(tk sgl k r f).1, (tk sgl k r f).2.1, (tk sgl k r f).2.2, rfl, ?_, (tk_bd sgl k r f).1, (tk_bd sgl k r f).2⟩
  obtain ⟨p, hp⟩ := tk_suffix sgl k r f
  have := congrArg List.length hp
  rw [List.length_append] at this
  omega
theorem cut_t {sgl b : List UInt8} {hb : Bool} {sg : ByteArray} {r : List UInt8} {w : World} (h1 : Lib.hasPrefix r sgl = hb) (h2 : Lib.trimPrefix r sgl = b) (hsg : sg.data.toList = sgl) :
    Calls Tryz.prog 46 #[.string (bytes r), .string sg] w fun e w' => e = .returned (.tuple #[.string (bytes b), .bool hb]) ∧ w' = w := by
  have := Tryz.strings_CutPrefix (bytes r) sg w
  rw [hsg, bytes_list, h1, h2] at this
  exact this
theorem has_t {sgl : List UInt8} {hb : Bool} {sg : ByteArray} {r : List UInt8} {w : World} (h1 : Lib.hasPrefix r sgl = hb) (hsg : sg.data.toList = sgl) :
    Calls Tryz.prog 47 #[.string (bytes r), .string sg] w fun e w' => e = .returned (.bool hb) ∧ w' = w := by
  have := Go.Proofs.Any.strings_HasPrefix lays99 (bytes r) sg w
  rw [hsg, bytes_list, h1] at this
  exact this
theorem power_t {k : Nat} {w : World} (hk : k ≤ 9) : Calls Tryz.prog 64 #[.int .i64 (9 - (k : Int))] w fun e w' => e = .returned (.int .i64 ((10 ^ (9 - k) : Nat) : Int)) ∧ w' = w := by
  have := power_any (9 - k) w (by omega)
  rw [show ((9 - k : Nat) : Int) = 9 - (k : Int) by omega] at this
  exact this
theorem figs_t {b : List UInt8} {g : Nat} {w : World} (h : figs b 6 = g) (hl : b.length ≤ 9223372036854775807) : Calls Tryz.prog 62 #[.string (bytes b), .int .i64 6] w fun e w' => e = .returned (.int .i64 g) ∧ w' = w := by
  have := figuresOf_any (bytes b) 6 w (by rw [bytes_size]; exact hl) (by omega)
  rw [bytes_list, h] at this
  exact this
theorem pow_split (k : Nat) (v : Int) (hk : k ≤ 9) (h0 : 0 ≤ v) (h1 : v < (10 : Int) ^ k) : 0 ≤ v * ((10 ^ (9 - k) : Nat) : Int) ∧ v * ((10 ^ (9 - k) : Nat) : Int) ≤ 999999999 := by
  have e : (10 : Int) ^ k * ((10 ^ (9 - k) : Nat) : Int) = 1000000000 := by
    have h : (10 : Nat) ^ k * 10 ^ (9 - k) = 1000000000 := by rw [← Nat.pow_add, show k + (9 - k) = 9 by omega]
    have h2 := congrArg (Nat.cast (R := Int)) h
    simpa using h2
  have hp : (0 : Int) < ((10 ^ (9 - k) : Nat) : Int) := by have := Nat.pow_pos (n := 9 - k) (show 0 < 10 by decide); omega
  refine ⟨Int.mul_nonneg h0 (by omega), ?_⟩
  have := Int.mul_lt_mul_of_pos_right h1 hp
  omega
theorem store8 {w w9 : World} (B : Below w.heap.size w w9) (c0 c1 c2 c3 c4 c5 c6 c7 : Value) : Below w.heap.size w ((((((((w9.setCell ⟨w.heap.size, 0, none⟩ c0).setCell ⟨w.heap.size, 1, none⟩ c1).setCell ⟨w.heap.size, 2, none⟩ c2).setCell ⟨w.heap.size, 3, none⟩ c3).setCell ⟨w.heap.size, 4, none⟩ c4).setCell ⟨w.heap.size, 5, none⟩ c5).setCell ⟨w.heap.size, 6, none⟩ c6).setCell ⟨w.heap.size, 7, none⟩ c7).drew :=
  have hle := Nat.le_refl w.heap.size
  have h := ((((((((B.setCell (p := ⟨w.heap.size, 0, none⟩) hle c0).setCell (p := ⟨w.heap.size, 1, none⟩) hle c1).setCell (p := ⟨w.heap.size, 2, none⟩) hle c2).setCell (p := ⟨w.heap.size, 3, none⟩) hle c3).setCell (p := ⟨w.heap.size, 4, none⟩) hle c4).setCell (p := ⟨w.heap.size, 5, none⟩) hle c5).setCell (p := ⟨w.heap.size, 6, none⟩) hle c6).setCell (p := ⟨w.heap.size, 7, none⟩) hle c7)
  h.trans ((drewN_below _ 1).mono h.size)
def ParseAns (l : List UInt8) (w : World) (e : Ending) (w' : World) : Prop :=
  ∃ (y m d h i s n z : Int) (t : List UInt8) (err : Int), e = .returned (.tuple #[.agg #[.int .i64 y, .int .i64 m, .int .i64 d, .int .i64 h, .int .i64 i, .int .i64 s, .int .i64 n, .int .i64 z], .string (bytes t), .int .i64 err]) ∧ ParsedAs l y m d h i s n z t err ∧ Below w.heap.size w w'
theorem empty_bytes : (⟨#[]⟩ : ByteArray) = bytes [] := rfl

/-- What holds where Parse gives up: nothing is told of the text; the answer's place is as it was laid. -/
def GivesUp (l : List UInt8) (w : World) (a : Act) (w' : World) : Prop :=
  Frame91 w.heap.size a ∧ Below (w.alloc (.cells #[.int .i64 0, .int .i64 0, .int .i64 0, .int .i64 0, .int .i64 0, .int .i64 0, .int .i64 0, .int .i64 0] 50)).heap.size (w.alloc (.cells #[.int .i64 0, .int .i64 0, .int .i64 0, .int .i64 0, .int .i64 0, .int .i64 0, .int .i64 0, .int .i64 0] 50)) w' ∧ ParsedAs l 0 0 0 0 0 0 0 0 [] 3
set_option maxHeartbeats 2000000 in
set_option maxRecDepth 100000 in
theorem parse_any (l : List UInt8) (w : World) (ht : Tab w) (hl : l.length ≤ 9223372036854775807) : Calls Tryz.prog 44 #[.string (bytes l)] w (ParseAns l w) := by
  have hmf : ∀ (fn : Fn) (first cap : Array Value) (w : World), (Instr.makeFunc fn first cap).run Tryz.prog w = .ok (.func fn first cap) w := fun _ _ _ _ => rfl
  obtain ⟨v1, r1, f1, h1, l1, a1, b1⟩ := tk_parts [] 4 l true
  obtain ⟨v2, r2, f2, h2, l2, a2, b2⟩ := tk_parts [45] 2 r1 f1
  obtain ⟨v3, r3, f3, h3, l3, a3, b3⟩ := tk_parts [45] 2 r2 f2
  obtain ⟨v4, r4, f4, h4, l4, a4, b4⟩ := tk_parts [84] 2 r3 f3
  obtain ⟨v5, r5, f5, h5, l5, a5, b5⟩ := tk_parts [58] 2 r4 f4
  obtain ⟨v6, r6, f6, h6, l6, a6, b6⟩ := tk_parts [58] 2 r5 f5
  have H1 := Lib.hid h1
  have H2 := Lib.hid h2
  have H3 := Lib.hid h3
  have H4 := Lib.hid h4
  have H5 := Lib.hid h5
  have H6 := Lib.hid h6
  clear h1 h2 h3 h4 h5 h6
  go_enter Tryz.func44, Tryz.ntmps44
  go_wp2_with fail
  refine wp_scope_jumps 0 (GivesUp l w) (fun _ _ => 0) rfl ?first ?pass
  case pass =>
    rintro a w1 ⟨ha, hb, hbad⟩
    obtain ⟨hc, hf⟩ := bcell hb
    have B : Below w.heap.size w w1 := ((Below.refl _ _).alloc (Nat.le_refl _) _).trans (hb.mono (by simp))
    have hz : w.heap.size < w1.heap.size := by have := hb.size; simp at this; omega
    have HB := Lib.hid hbad
    clear hbad hb H1 H2 H3 H4 H5 H6 ht
    cases ha
    go_wp2
    change bodyPost Tryz.prog Tryz.f44 (ParseAns l w) Exit.ret _ _
    refine bodyPost_ret (v := .tuple #[.agg #[.int .i64 0, .int .i64 0, .int .i64 0, .int .i64 0, .int .i64 0, .int .i64 0, .int .i64 0, .int .i64 0], .string (bytes []), .int .i64 3])
      (by simp [results, Tryz.results44, go_sem, hc, empty_bytes]) rfl ⟨0, 0, 0, 0, 0, 0, 0, 0, [], 3, rfl, HB.out, ?_⟩
    have hle := Nat.le_refl w.heap.size
    exact (((((((B.setCell (p := ⟨w.heap.size, 0, none⟩) hle _).setCell (p := ⟨w.heap.size, 1, none⟩) hle _).setCell (p := ⟨w.heap.size, 2, none⟩) hle _).setCell (p := ⟨w.heap.size, 3, none⟩) hle _).setCell (p := ⟨w.heap.size, 4, none⟩) hle _).setCell (p := ⟨w.heap.size, 5, none⟩) hle _).setCell (p := ⟨w.heap.size, 6, none⟩) hle _).setCell (p := ⟨w.heap.size, 7, none⟩) hle _
  go_wp2_with fail
  refine (take_t (sg := ⟨#[]⟩) (k := 4) H1.out rfl (by omega) (by omega)).mono ?_
  rintro e w' ⟨rfl, rfl⟩
  go_wp2_with fail
  refine (take_t (sg := ⟨#[45]⟩) (k := 2) H2.out rfl (by omega) (by omega)).mono ?_
  rintro e w' ⟨rfl, rfl⟩
  go_wp2_with fail
  refine (take_t (sg := ⟨#[45]⟩) (k := 2) H3.out rfl (by omega) (by omega)).mono ?_
  rintro e w' ⟨rfl, rfl⟩
  go_wp2_with fail
  refine (take_t (sg := ⟨#[84]⟩) (k := 2) H4.out rfl (by omega) (by omega)).mono ?_
  rintro e w' ⟨rfl, rfl⟩
  go_wp2_with fail
  refine (take_t (sg := ⟨#[58]⟩) (k := 2) H5.out rfl (by omega) (by omega)).mono ?_
  rintro e w' ⟨rfl, rfl⟩
  go_wp2_with fail
  refine (take_t (sg := ⟨#[58]⟩) (k := 2) H6.out rfl (by omega) (by omega)).mono ?_
  rintro e w' ⟨rfl, rfl⟩
  cases f6 with
  | false =>
    go_wp2
    go_step3
    change 0 = 0 ∧ GivesUp l w _ _
    refine ⟨rfl, by constructor, (((Below.refl _ _).alloc (Nat.le_refl _) _).alloc (by simp) _).alloc (by simp <;> omega) _, ⟨_, _, _, _, _, _, H1.out, H2.out, H3.out, H4.out, H5.out, H6.out, .inl ⟨rfl, rfl, rfl, rfl, rfl, rfl, rfl, rfl, rfl, rfl, rfl⟩⟩⟩
  | true =>
    by_cases hp : Lib.hasPrefix r6 [46] = true
    · obtain ⟨b, hb⟩ : ∃ b, Lib.trimPrefix r6 [46] = b := ⟨_, rfl⟩
      obtain ⟨g, hg⟩ : ∃ g, figs b 6 = g := ⟨_, rfl⟩
      have hg6 : g ≤ 6 := by rw [← hg]; exact (figs_le b 6).1
      have lb : b.length ≤ 9223372036854775807 := by
        obtain ⟨p, hpp⟩ := trim_suffix r6 [46]
        have := congrArg List.length hpp
        rw [List.length_append, hb] at this
        omega
      obtain ⟨k, hk⟩ : ∃ k, max 1 g = k := ⟨_, rfl⟩
      have hk1 : 1 ≤ k ∧ k ≤ 6 := by omega
      have hmax : max (1 : Int) (g : Int) = (k : Int) := by omega
      obtain ⟨vn, r7, f7, hT, l7, an, bn⟩ := tk_parts [46] k r6 true
      obtain ⟨P, hP⟩ : ∃ P : Int, ((10 ^ (9 - k) : Nat) : Int) = P := ⟨_, rfl⟩
      have hx := pow_split k vn (by omega) an bn
      rw [hP] at hx
      have HN := Lib.hid (show nanoL r6 = (vn * P, r7, f7) by
        unfold nanoL
        rw [if_pos hp]
        simp only [hb, hg, hk, hT, hP])
      have HT := Lib.hid hT
      have HB := Lib.hid hb
      have HP := Lib.hid hp
      have HG := Lib.hid hg
      have HPP := Lib.hid hP
      obtain ⟨x1, x2⟩ := hx
      have hpk : 0 ≤ P ∧ P ≤ 1000000000 := by
        rw [← hP]
        have := Nat.pow_le_pow_right (show 0 < 10 by decide) (show 9 - k ≤ 9 by omega)
        have h9 : (10 : Nat) ^ 9 = 1000000000 := rfl
        rw [h9] at this
        generalize 10 ^ (9 - k) = q at this ⊢
        omega
      have vn2 : vn ≤ 1000000 := by
        have : 10 ^ k ≤ 10 ^ 6 := Nat.pow_le_pow_right (by decide) (by omega)
        have e : (10 : Int) ^ k = ((10 ^ k : Nat) : Int) := by simp
        rw [e] at bn
        omega
      clear hT hb hp hg hP hk bn
      go_wp2_with fail
      refine (cut_t (sg := ⟨#[46]⟩) HP.out HB.out rfl).mono ?_
      rintro e w' ⟨rfl, rfl⟩
      go_wp2_with fail
      refine (figs_t HG.out lb).mono ?_
      rintro e w' ⟨rfl, rfl⟩
      go_wp2_with fail
      refine (take_t (sg := ⟨#[46]⟩) (k := k) HT.out rfl (by omega) (by omega)).mono ?_
      rintro e w' ⟨rfl, rfl⟩
      go_wp2_with fail
      refine (power_t (k := k) (by omega)).mono ?_
      rintro e w' ⟨rfl, rfl⟩
      rw [HPP.out]
      clear HB HP HG HT HPP hmax
      rcases (show Lib.hasPrefix r7 [90] = true ∨ (Lib.hasPrefix r7 [90] = false ∧ Lib.hasPrefix r7 [45] = true) ∨ (Lib.hasPrefix r7 [90] = false ∧ Lib.hasPrefix r7 [45] = false) by
          cases Lib.hasPrefix r7 [90] <;> cases Lib.hasPrefix r7 [45] <;> simp) with hz | ⟨hz, hq⟩ | ⟨hz, hq⟩
      · obtain ⟨vz, r9, f9, hT, lz, az, bz⟩ := tk_parts [90] 0 r7 f7
        have HZ := Lib.hid (show zoneL r7 f7 = (0, 0, r9, f9) by unfold zoneL; rw [if_pos hz, hT])
        have HT := Lib.hid hT
        have Hz := Lib.hid hz
        clear hT hz
        go_wp2_with fail
        refine (has_t (sg := ⟨#[90]⟩) Hz.out rfl).mono ?_
        rintro e w' ⟨rfl, rfl⟩
        go_wp2_with fail
        refine (take_t (sg := ⟨#[90]⟩) (k := 0) HT.out rfl (by omega) (by omega)).mono ?_
        rintro e w' ⟨rfl, rfl⟩
        clear HT Hz
        have hw9 : Tab ((((w.alloc (.cells #[.int .i64 0, .int .i64 0, .int .i64 0, .int .i64 0, .int .i64 0, .int .i64 0, .int .i64 0, .int .i64 0] 50)).alloc (.cells #[.int .i64 v1, .int .i64 v2, .int .i64 v3, .int .i64 v4, .int .i64 v5, .int .i64 v6, .int .i64 (vn * P), .int .i64 (0)] 50)).alloc (.cells #[.string (bytes r9)] 9)).alloc (.cells #[.bool f9] 4)) := (((ht.alloc _).alloc _).alloc _).alloc _
        have bw9 : Below (w.alloc (.cells #[.int .i64 0, .int .i64 0, .int .i64 0, .int .i64 0, .int .i64 0, .int .i64 0, .int .i64 0, .int .i64 0] 50)).heap.size (w.alloc (.cells #[.int .i64 0, .int .i64 0, .int .i64 0, .int .i64 0, .int .i64 0, .int .i64 0, .int .i64 0, .int .i64 0] 50)) ((((w.alloc (.cells #[.int .i64 0, .int .i64 0, .int .i64 0, .int .i64 0, .int .i64 0, .int .i64 0, .int .i64 0, .int .i64 0] 50)).alloc (.cells #[.int .i64 v1, .int .i64 v2, .int .i64 v3, .int .i64 v4, .int .i64 v5, .int .i64 v6, .int .i64 (vn * P), .int .i64 (0)] 50)).alloc (.cells #[.string (bytes r9)] 9)).alloc (.cells #[.bool f9] 4)) :=
          (((Below.refl _ _).alloc (Nat.le_refl _) _).alloc (by simp) _).alloc (by simp <;> omega) _
        cases f9 with
        | false =>
          go_wp2
          go_step3
          change 0 = 0 ∧ GivesUp l w _ _
          exact ⟨rfl, by constructor, bw9, ⟨_, _, _, _, _, _, H1.out, H2.out, H3.out, H4.out, H5.out, H6.out, .inr ⟨rfl, _, _, HN.out, HZ.out, .inr ⟨(fun k => by cases k.1), rfl, rfl, rfl, rfl, rfl, rfl, rfl, rfl, rfl, rfl⟩⟩⟩⟩
        | true =>
          by_cases hmm : (-59 : Int) ≤ 0 ∧ (0 : Int) ≤ 59
          · have hwi : withinB (0) (-59) 59 = true := decide_eq_true hmm
            have HM := Lib.hid hmm
            clear hmm
            go_wp2_with (go_at_call 65; refine (within_any _ _ _ _).mono ?_; rintro e w' ⟨rfl, rfl⟩)
            refine (right_any _ _ _ _ _ _ _ _ _ hw9).mono ?_
            rintro e w9 ⟨rfl, hb9⟩
            have bb9 := bw9.trans (hb9.mono (by simp <;> omega))
            obtain ⟨hc9, hf9⟩ := bcell hb9
            obtain ⟨hcb, hfb⟩ := bcell bb9
            have hz9 : w.heap.size + 3 < w9.heap.size := by have := hb9.size; simp at this; omega
            clear hw9 hwi
            by_cases hr : rightB v1 v2 v3 v4 v5 v6 (vn * P) (0) = true
            · go_wp2
              go_region
              go_wp2
              change bodyPost Tryz.prog Tryz.f44 (ParseAns l w) Exit.ret _ _
              refine bodyPost_ret (v := .tuple #[.agg #[.int .i64 v1, .int .i64 v2, .int .i64 v3, .int .i64 v4, .int .i64 v5, .int .i64 v6, .int .i64 (vn * P), .int .i64 (0)], .string (bytes r9), .int .i64 0])
                (by simp [results, Tryz.results44, go_sem, hcb]) rfl ⟨v1, v2, v3, v4, v5, v6, (vn * P), 0, r9, 0, rfl, ⟨_, _, _, _, _, _, H1.out, H2.out, H3.out, H4.out, H5.out, H6.out, .inr ⟨rfl, _, _, HN.out, HZ.out, .inl ⟨⟨rfl, HM.out, hr⟩, rfl, rfl, rfl, rfl, rfl, rfl, rfl, rfl, rfl, rfl⟩⟩⟩, ?_⟩
              exact store8 (((Below.refl _ _).alloc (Nat.le_refl _) _).trans (bb9.mono (by simp))) _ _ _ _ _ _ _ _
            · have hr' : rightB v1 v2 v3 v4 v5 v6 (vn * P) (0) = false := by simpa using hr
              have HR := Lib.hid hr
              clear hr
              go_wp2
              go_step3
              change 0 = 0 ∧ GivesUp l w _ _
              exact ⟨rfl, by constructor, bb9, ⟨_, _, _, _, _, _, H1.out, H2.out, H3.out, H4.out, H5.out, H6.out, .inr ⟨rfl, _, _, HN.out, HZ.out, .inr ⟨(fun k => HR.out k.2.2), rfl, rfl, rfl, rfl, rfl, rfl, rfl, rfl, rfl, rfl⟩⟩⟩⟩
          · have hwi : withinB (0) (-59) 59 = false := decide_eq_false hmm
            have HM := Lib.hid hmm
            clear hmm
            go_wp2_with (go_at_call 65; refine (within_any _ _ _ _).mono ?_; rintro e w' ⟨rfl, rfl⟩)
            go_step3
            change 0 = 0 ∧ GivesUp l w _ _
            exact ⟨rfl, by constructor, bw9, ⟨_, _, _, _, _, _, H1.out, H2.out, H3.out, H4.out, H5.out, H6.out, .inr ⟨rfl, _, _, HN.out, HZ.out, .inr ⟨(fun k => HM.out k.2.1), rfl, rfl, rfl, rfl, rfl, rfl, rfl, rfl, rfl, rfl⟩⟩⟩⟩
      · obtain ⟨vh, r8, f8, hT, lz, ah, bh⟩ := tk_parts [45] 2 r7 f7
        obtain ⟨vm, r9, f9, hU, lu, am, bm⟩ := tk_parts [58] 2 r8 f8
        have HZ := Lib.hid (show zoneL r7 f7 = ((-vh), (-vm), r9, f9) by unfold zoneL; rw [if_neg (by rw [hz]; simp), if_pos hq]; simp only [hT, hU])
        have HT := Lib.hid hT
        have HU := Lib.hid hU
        have Hz := Lib.hid hz
        have Hq := Lib.hid hq
        have bh2 : vh < 100 := by have : (10 : Int) ^ 2 = 100 := rfl; omega
        have bm2 : vm < 100 := by have : (10 : Int) ^ 2 = 100 := rfl; omega
        clear hT hU hz hq bh bm
        go_wp2_with fail
        refine (has_t (sg := ⟨#[90]⟩) Hz.out rfl).mono ?_
        rintro e w' ⟨rfl, rfl⟩
        go_wp2_with fail
        refine (has_t (sg := ⟨#[45]⟩) Hq.out rfl).mono ?_
        rintro e w' ⟨rfl, rfl⟩
        go_wp2_with fail
        refine (take_t (sg := ⟨#[45]⟩) (k := 2) HT.out rfl (by omega) (by omega)).mono ?_
        rintro e w' ⟨rfl, rfl⟩
        go_wp2_with fail
        refine (take_t (sg := ⟨#[58]⟩) (k := 2) HU.out rfl (by omega) (by omega)).mono ?_
        rintro e w' ⟨rfl, rfl⟩
        clear HT HU Hz Hq
        have hw9 : Tab ((((w.alloc (.cells #[.int .i64 0, .int .i64 0, .int .i64 0, .int .i64 0, .int .i64 0, .int .i64 0, .int .i64 0, .int .i64 0] 50)).alloc (.cells #[.int .i64 v1, .int .i64 v2, .int .i64 v3, .int .i64 v4, .int .i64 v5, .int .i64 v6, .int .i64 (vn * P), .int .i64 (-vh * 60 + -vm)] 50)).alloc (.cells #[.string (bytes r9)] 9)).alloc (.cells #[.bool f9] 4)) := (((ht.alloc _).alloc _).alloc _).alloc _
        have bw9 : Below (w.alloc (.cells #[.int .i64 0, .int .i64 0, .int .i64 0, .int .i64 0, .int .i64 0, .int .i64 0, .int .i64 0, .int .i64 0] 50)).heap.size (w.alloc (.cells #[.int .i64 0, .int .i64 0, .int .i64 0, .int .i64 0, .int .i64 0, .int .i64 0, .int .i64 0, .int .i64 0] 50)) ((((w.alloc (.cells #[.int .i64 0, .int .i64 0, .int .i64 0, .int .i64 0, .int .i64 0, .int .i64 0, .int .i64 0, .int .i64 0] 50)).alloc (.cells #[.int .i64 v1, .int .i64 v2, .int .i64 v3, .int .i64 v4, .int .i64 v5, .int .i64 v6, .int .i64 (vn * P), .int .i64 (-vh * 60 + -vm)] 50)).alloc (.cells #[.string (bytes r9)] 9)).alloc (.cells #[.bool f9] 4)) :=
          (((Below.refl _ _).alloc (Nat.le_refl _) _).alloc (by simp) _).alloc (by simp <;> omega) _
        cases f9 with
        | false =>
          go_wp2
          go_step3
          change 0 = 0 ∧ GivesUp l w _ _
          exact ⟨rfl, by constructor, bw9, ⟨_, _, _, _, _, _, H1.out, H2.out, H3.out, H4.out, H5.out, H6.out, .inr ⟨rfl, _, _, HN.out, HZ.out, .inr ⟨(fun k => by cases k.1), rfl, rfl, rfl, rfl, rfl, rfl, rfl, rfl, rfl, rfl⟩⟩⟩⟩
        | true =>
          by_cases hmm : (-59 : Int) ≤ -vm ∧ -vm ≤ (59 : Int)
          · have hwi : withinB (-vm) (-59) 59 = true := decide_eq_true hmm
            have HM := Lib.hid hmm
            clear hmm
            go_wp2_with (go_at_call 65; refine (within_any _ _ _ _).mono ?_; rintro e w' ⟨rfl, rfl⟩)
            refine (right_any _ _ _ _ _ _ _ _ _ hw9).mono ?_
            rintro e w9 ⟨rfl, hb9⟩
            have bb9 := bw9.trans (hb9.mono (by simp <;> omega))
            obtain ⟨hc9, hf9⟩ := bcell hb9
            obtain ⟨hcb, hfb⟩ := bcell bb9
            have hz9 : w.heap.size + 3 < w9.heap.size := by have := hb9.size; simp at this; omega
            clear hw9 hwi
            by_cases hr : rightB v1 v2 v3 v4 v5 v6 (vn * P) (-vh * 60 + -vm) = true
            · go_wp2
              go_region
              go_wp2
              change bodyPost Tryz.prog Tryz.f44 (ParseAns l w) Exit.ret _ _
              refine bodyPost_ret (v := .tuple #[.agg #[.int .i64 v1, .int .i64 v2, .int .i64 v3, .int .i64 v4, .int .i64 v5, .int .i64 v6, .int .i64 (vn * P), .int .i64 (-vh * 60 + -vm)], .string (bytes r9), .int .i64 0])
                (by simp [results, Tryz.results44, go_sem, hcb]) rfl ⟨v1, v2, v3, v4, v5, v6, (vn * P), -vh * 60 + -vm, r9, 0, rfl, ⟨_, _, _, _, _, _, H1.out, H2.out, H3.out, H4.out, H5.out, H6.out, .inr ⟨rfl, _, _, HN.out, HZ.out, .inl ⟨⟨rfl, HM.out, hr⟩, rfl, rfl, rfl, rfl, rfl, rfl, rfl, rfl, rfl, rfl⟩⟩⟩, ?_⟩
              exact store8 (((Below.refl _ _).alloc (Nat.le_refl _) _).trans (bb9.mono (by simp))) _ _ _ _ _ _ _ _
            · have hr' : rightB v1 v2 v3 v4 v5 v6 (vn * P) (-vh * 60 + -vm) = false := by simpa using hr
              have HR := Lib.hid hr
              clear hr
              go_wp2
              go_step3
              change 0 = 0 ∧ GivesUp l w _ _
              exact ⟨rfl, by constructor, bb9, ⟨_, _, _, _, _, _, H1.out, H2.out, H3.out, H4.out, H5.out, H6.out, .inr ⟨rfl, _, _, HN.out, HZ.out, .inr ⟨(fun k => HR.out k.2.2), rfl, rfl, rfl, rfl, rfl, rfl, rfl, rfl, rfl, rfl⟩⟩⟩⟩
          · have hwi : withinB (-vm) (-59) 59 = false := decide_eq_false hmm
            have HM := Lib.hid hmm
            clear hmm
            go_wp2_with (go_at_call 65; refine (within_any _ _ _ _).mono ?_; rintro e w' ⟨rfl, rfl⟩)
            go_step3
            change 0 = 0 ∧ GivesUp l w _ _
            exact ⟨rfl, by constructor, bw9, ⟨_, _, _, _, _, _, H1.out, H2.out, H3.out, H4.out, H5.out, H6.out, .inr ⟨rfl, _, _, HN.out, HZ.out, .inr ⟨(fun k => HM.out k.2.1), rfl, rfl, rfl, rfl, rfl, rfl, rfl, rfl, rfl, rfl⟩⟩⟩⟩
      · obtain ⟨vh, r8, f8, hT, lz, ah, bh⟩ := tk_parts [43] 2 r7 f7
        obtain ⟨vm, r9, f9, hU, lu, am, bm⟩ := tk_parts [58] 2 r8 f8
        have HZ := Lib.hid (show zoneL r7 f7 = (vh, vm, r9, f9) by unfold zoneL; rw [if_neg (by rw [hz]; simp), if_neg (by rw [hq]; simp)]; simp only [hT, hU])
        have HT := Lib.hid hT
        have HU := Lib.hid hU
        have Hz := Lib.hid hz
        have Hq := Lib.hid hq
        have bh2 : vh < 100 := by have : (10 : Int) ^ 2 = 100 := rfl; omega
        have bm2 : vm < 100 := by have : (10 : Int) ^ 2 = 100 := rfl; omega
        clear hT hU hz hq bh bm
        go_wp2_with fail
        refine (has_t (sg := ⟨#[90]⟩) Hz.out rfl).mono ?_
        rintro e w' ⟨rfl, rfl⟩
        go_wp2_with fail
        refine (has_t (sg := ⟨#[45]⟩) Hq.out rfl).mono ?_
        rintro e w' ⟨rfl, rfl⟩
        go_wp2_with fail
        refine (take_t (sg := ⟨#[43]⟩) (k := 2) HT.out rfl (by omega) (by omega)).mono ?_
        rintro e w' ⟨rfl, rfl⟩
        go_wp2_with fail
        refine (take_t (sg := ⟨#[58]⟩) (k := 2) HU.out rfl (by omega) (by omega)).mono ?_
        rintro e w' ⟨rfl, rfl⟩
        clear HT HU Hz Hq
        have hw9 : Tab ((((w.alloc (.cells #[.int .i64 0, .int .i64 0, .int .i64 0, .int .i64 0, .int .i64 0, .int .i64 0, .int .i64 0, .int .i64 0] 50)).alloc (.cells #[.int .i64 v1, .int .i64 v2, .int .i64 v3, .int .i64 v4, .int .i64 v5, .int .i64 v6, .int .i64 (vn * P), .int .i64 (vh * 60 + vm)] 50)).alloc (.cells #[.string (bytes r9)] 9)).alloc (.cells #[.bool f9] 4)) := (((ht.alloc _).alloc _).alloc _).alloc _
        have bw9 : Below (w.alloc (.cells #[.int .i64 0, .int .i64 0, .int .i64 0, .int .i64 0, .int .i64 0, .int .i64 0, .int .i64 0, .int .i64 0] 50)).heap.size (w.alloc (.cells #[.int .i64 0, .int .i64 0, .int .i64 0, .int .i64 0, .int .i64 0, .int .i64 0, .int .i64 0, .int .i64 0] 50)) ((((w.alloc (.cells #[.int .i64 0, .int .i64 0, .int .i64 0, .int .i64 0, .int .i64 0, .int .i64 0, .int .i64 0, .int .i64 0] 50)).alloc (.cells #[.int .i64 v1, .int .i64 v2, .int .i64 v3, .int .i64 v4, .int .i64 v5, .int .i64 v6, .int .i64 (vn * P), .int .i64 (vh * 60 + vm)] 50)).alloc (.cells #[.string (bytes r9)] 9)).alloc (.cells #[.bool f9] 4)) :=
          (((Below.refl _ _).alloc (Nat.le_refl _) _).alloc (by simp) _).alloc (by simp <;> omega) _
        cases f9 with
        | false =>
          go_wp2
          go_step3
          change 0 = 0 ∧ GivesUp l w _ _
          exact ⟨rfl, by constructor, bw9, ⟨_, _, _, _, _, _, H1.out, H2.out, H3.out, H4.out, H5.out, H6.out, .inr ⟨rfl, _, _, HN.out, HZ.out, .inr ⟨(fun k => by cases k.1), rfl, rfl, rfl, rfl, rfl, rfl, rfl, rfl, rfl, rfl⟩⟩⟩⟩
        | true =>
          by_cases hmm : (-59 : Int) ≤ vm ∧ vm ≤ (59 : Int)
          · have hwi : withinB (vm) (-59) 59 = true := decide_eq_true hmm
            have HM := Lib.hid hmm
            clear hmm
            go_wp2_with (go_at_call 65; refine (within_any _ _ _ _).mono ?_; rintro e w' ⟨rfl, rfl⟩)
            refine (right_any _ _ _ _ _ _ _ _ _ hw9).mono ?_
            rintro e w9 ⟨rfl, hb9⟩
            have bb9 := bw9.trans (hb9.mono (by simp <;> omega))
            obtain ⟨hc9, hf9⟩ := bcell hb9
            obtain ⟨hcb, hfb⟩ := bcell bb9
            have hz9 : w.heap.size + 3 < w9.heap.size := by have := hb9.size; simp at this; omega
            clear hw9 hwi
            by_cases hr : rightB v1 v2 v3 v4 v5 v6 (vn * P) (vh * 60 + vm) = true
            · go_wp2
              go_region
              go_wp2
              change bodyPost Tryz.prog Tryz.f44 (ParseAns l w) Exit.ret _ _
              refine bodyPost_ret (v := .tuple #[.agg #[.int .i64 v1, .int .i64 v2, .int .i64 v3, .int .i64 v4, .int .i64 v5, .int .i64 v6, .int .i64 (vn * P), .int .i64 (vh * 60 + vm)], .string (bytes r9), .int .i64 0])
                (by simp [results, Tryz.results44, go_sem, hcb]) rfl ⟨v1, v2, v3, v4, v5, v6, (vn * P), vh * 60 + vm, r9, 0, rfl, ⟨_, _, _, _, _, _, H1.out, H2.out, H3.out, H4.out, H5.out, H6.out, .inr ⟨rfl, _, _, HN.out, HZ.out, .inl ⟨⟨rfl, HM.out, hr⟩, rfl, rfl, rfl, rfl, rfl, rfl, rfl, rfl, rfl, rfl⟩⟩⟩, ?_⟩
              exact store8 (((Below.refl _ _).alloc (Nat.le_refl _) _).trans (bb9.mono (by simp))) _ _ _ _ _ _ _ _
            · have hr' : rightB v1 v2 v3 v4 v5 v6 (vn * P) (vh * 60 + vm) = false := by simpa using hr
              have HR := Lib.hid hr
              clear hr
              go_wp2
              go_step3
              change 0 = 0 ∧ GivesUp l w _ _
              exact ⟨rfl, by constructor, bb9, ⟨_, _, _, _, _, _, H1.out, H2.out, H3.out, H4.out, H5.out, H6.out, .inr ⟨rfl, _, _, HN.out, HZ.out, .inr ⟨(fun k => HR.out k.2.2), rfl, rfl, rfl, rfl, rfl, rfl, rfl, rfl, rfl, rfl⟩⟩⟩⟩
          · have hwi : withinB (vm) (-59) 59 = false := decide_eq_false hmm
            have HM := Lib.hid hmm
            clear hmm
            go_wp2_with (go_at_call 65; refine (within_any _ _ _ _).mono ?_; rintro e w' ⟨rfl, rfl⟩)
            go_step3
            change 0 = 0 ∧ GivesUp l w _ _
            exact ⟨rfl, by constructor, bw9, ⟨_, _, _, _, _, _, H1.out, H2.out, H3.out, H4.out, H5.out, H6.out, .inr ⟨rfl, _, _, HN.out, HZ.out, .inr ⟨(fun k => HM.out k.2.1), rfl, rfl, rfl, rfl, rfl, rfl, rfl, rfl, rfl, rfl⟩⟩⟩⟩
    · have hp' : Lib.hasPrefix r6 [46] = false := by simpa using hp
      have HN := Lib.hid (show nanoL r6 = (0, r6, true) by unfold nanoL; rw [if_neg hp])
      have HP := Lib.hid hp'
      clear hp hp'
      obtain ⟨b, hb⟩ : ∃ b, Lib.trimPrefix r6 [46] = b := ⟨_, rfl⟩
      have HB := Lib.hid hb
      clear hb
      go_wp2_with fail
      refine (cut_t (sg := ⟨#[46]⟩) HP.out HB.out rfl).mono ?_
      rintro e w' ⟨rfl, rfl⟩
      clear HB HP
      rcases (show Lib.hasPrefix r6 [90] = true ∨ (Lib.hasPrefix r6 [90] = false ∧ Lib.hasPrefix r6 [45] = true) ∨ (Lib.hasPrefix r6 [90] = false ∧ Lib.hasPrefix r6 [45] = false) by
          cases Lib.hasPrefix r6 [90] <;> cases Lib.hasPrefix r6 [45] <;> simp) with hz | ⟨hz, hq⟩ | ⟨hz, hq⟩
      · obtain ⟨vz, r9, f9, hT, lz, az, bz⟩ := tk_parts [90] 0 r6 true
        have HZ := Lib.hid (show zoneL r6 true = (0, 0, r9, f9) by unfold zoneL; rw [if_pos hz, hT])
        have HT := Lib.hid hT
        have Hz := Lib.hid hz
        clear hT hz
        go_wp2_with fail
        refine (has_t (sg := ⟨#[90]⟩) Hz.out rfl).mono ?_
        rintro e w' ⟨rfl, rfl⟩
        go_wp2_with fail
        refine (take_t (sg := ⟨#[90]⟩) (k := 0) HT.out rfl (by omega) (by omega)).mono ?_
        rintro e w' ⟨rfl, rfl⟩
        clear HT Hz
        have hw9 : Tab ((((w.alloc (.cells #[.int .i64 0, .int .i64 0, .int .i64 0, .int .i64 0, .int .i64 0, .int .i64 0, .int .i64 0, .int .i64 0] 50)).alloc (.cells #[.int .i64 v1, .int .i64 v2, .int .i64 v3, .int .i64 v4, .int .i64 v5, .int .i64 v6, .int .i64 0, .int .i64 (0)] 50)).alloc (.cells #[.string (bytes r9)] 9)).alloc (.cells #[.bool f9] 4)) := (((ht.alloc _).alloc _).alloc _).alloc _
        have bw9 : Below (w.alloc (.cells #[.int .i64 0, .int .i64 0, .int .i64 0, .int .i64 0, .int .i64 0, .int .i64 0, .int .i64 0, .int .i64 0] 50)).heap.size (w.alloc (.cells #[.int .i64 0, .int .i64 0, .int .i64 0, .int .i64 0, .int .i64 0, .int .i64 0, .int .i64 0, .int .i64 0] 50)) ((((w.alloc (.cells #[.int .i64 0, .int .i64 0, .int .i64 0, .int .i64 0, .int .i64 0, .int .i64 0, .int .i64 0, .int .i64 0] 50)).alloc (.cells #[.int .i64 v1, .int .i64 v2, .int .i64 v3, .int .i64 v4, .int .i64 v5, .int .i64 v6, .int .i64 0, .int .i64 (0)] 50)).alloc (.cells #[.string (bytes r9)] 9)).alloc (.cells #[.bool f9] 4)) :=
          (((Below.refl _ _).alloc (Nat.le_refl _) _).alloc (by simp) _).alloc (by simp <;> omega) _
        cases f9 with
        | false =>
          go_wp2
          go_step3
          change 0 = 0 ∧ GivesUp l w _ _
          exact ⟨rfl, by constructor, bw9, ⟨_, _, _, _, _, _, H1.out, H2.out, H3.out, H4.out, H5.out, H6.out, .inr ⟨rfl, _, _, HN.out, HZ.out, .inr ⟨(fun k => by cases k.1), rfl, rfl, rfl, rfl, rfl, rfl, rfl, rfl, rfl, rfl⟩⟩⟩⟩
        | true =>
          by_cases hmm : (-59 : Int) ≤ 0 ∧ (0 : Int) ≤ 59
          · have hwi : withinB (0) (-59) 59 = true := decide_eq_true hmm
            have HM := Lib.hid hmm
            clear hmm
            go_wp2_with (go_at_call 65; refine (within_any _ _ _ _).mono ?_; rintro e w' ⟨rfl, rfl⟩)
            refine (right_any _ _ _ _ _ _ _ _ _ hw9).mono ?_
            rintro e w9 ⟨rfl, hb9⟩
            have bb9 := bw9.trans (hb9.mono (by simp <;> omega))
            obtain ⟨hc9, hf9⟩ := bcell hb9
            obtain ⟨hcb, hfb⟩ := bcell bb9
            have hz9 : w.heap.size + 3 < w9.heap.size := by have := hb9.size; simp at this; omega
            clear hw9 hwi
            by_cases hr : rightB v1 v2 v3 v4 v5 v6 0 (0) = true
            · go_wp2
              go_region
              go_wp2
              change bodyPost Tryz.prog Tryz.f44 (ParseAns l w) Exit.ret _ _
              refine bodyPost_ret (v := .tuple #[.agg #[.int .i64 v1, .int .i64 v2, .int .i64 v3, .int .i64 v4, .int .i64 v5, .int .i64 v6, .int .i64 0, .int .i64 (0)], .string (bytes r9), .int .i64 0])
                (by simp [results, Tryz.results44, go_sem, hcb]) rfl ⟨v1, v2, v3, v4, v5, v6, 0, 0, r9, 0, rfl, ⟨_, _, _, _, _, _, H1.out, H2.out, H3.out, H4.out, H5.out, H6.out, .inr ⟨rfl, _, _, HN.out, HZ.out, .inl ⟨⟨rfl, HM.out, hr⟩, rfl, rfl, rfl, rfl, rfl, rfl, rfl, rfl, rfl, rfl⟩⟩⟩, ?_⟩
              exact store8 (((Below.refl _ _).alloc (Nat.le_refl _) _).trans (bb9.mono (by simp))) _ _ _ _ _ _ _ _
            · have hr' : rightB v1 v2 v3 v4 v5 v6 0 (0) = false := by simpa using hr
              have HR := Lib.hid hr
              clear hr
              go_wp2
              go_step3
              change 0 = 0 ∧ GivesUp l w _ _
              exact ⟨rfl, by constructor, bb9, ⟨_, _, _, _, _, _, H1.out, H2.out, H3.out, H4.out, H5.out, H6.out, .inr ⟨rfl, _, _, HN.out, HZ.out, .inr ⟨(fun k => HR.out k.2.2), rfl, rfl, rfl, rfl, rfl, rfl, rfl, rfl, rfl, rfl⟩⟩⟩⟩
          · have hwi : withinB (0) (-59) 59 = false := decide_eq_false hmm
            have HM := Lib.hid hmm
            clear hmm
            go_wp2_with (go_at_call 65; refine (within_any _ _ _ _).mono ?_; rintro e w' ⟨rfl, rfl⟩)
            go_step3
            change 0 = 0 ∧ GivesUp l w _ _
            exact ⟨rfl, by constructor, bw9, ⟨_, _, _, _, _, _, H1.out, H2.out, H3.out, H4.out, H5.out, H6.out, .inr ⟨rfl, _, _, HN.out, HZ.out, .inr ⟨(fun k => HM.out k.2.1), rfl, rfl, rfl, rfl, rfl, rfl, rfl, rfl, rfl, rfl⟩⟩⟩⟩
      · obtain ⟨vh, r8, f8, hT, lz, ah, bh⟩ := tk_parts [45] 2 r6 true
        obtain ⟨vm, r9, f9, hU, lu, am, bm⟩ := tk_parts [58] 2 r8 f8
        have HZ := Lib.hid (show zoneL r6 true = ((-vh), (-vm), r9, f9) by unfold zoneL; rw [if_neg (by rw [hz]; simp), if_pos hq]; simp only [hT, hU])
        have HT := Lib.hid hT
        have HU := Lib.hid hU
        have Hz := Lib.hid hz
        have Hq := Lib.hid hq
        have bh2 : vh < 100 := by have : (10 : Int) ^ 2 = 100 := rfl; omega
        have bm2 : vm < 100 := by have : (10 : Int) ^ 2 = 100 := rfl; omega
        clear hT hU hz hq bh bm
        go_wp2_with fail
        refine (has_t (sg := ⟨#[90]⟩) Hz.out rfl).mono ?_
        rintro e w' ⟨rfl, rfl⟩
        go_wp2_with fail
        refine (has_t (sg := ⟨#[45]⟩) Hq.out rfl).mono ?_
        rintro e w' ⟨rfl, rfl⟩
        go_wp2_with fail
        refine (take_t (sg := ⟨#[45]⟩) (k := 2) HT.out rfl (by omega) (by omega)).mono ?_
        rintro e w' ⟨rfl, rfl⟩
        go_wp2_with fail
        refine (take_t (sg := ⟨#[58]⟩) (k := 2) HU.out rfl (by omega) (by omega)).mono ?_
        rintro e w' ⟨rfl, rfl⟩
        clear HT HU Hz Hq
        have hw9 : Tab ((((w.alloc (.cells #[.int .i64 0, .int .i64 0, .int .i64 0, .int .i64 0, .int .i64 0, .int .i64 0, .int .i64 0, .int .i64 0] 50)).alloc (.cells #[.int .i64 v1, .int .i64 v2, .int .i64 v3, .int .i64 v4, .int .i64 v5, .int .i64 v6, .int .i64 0, .int .i64 (-vh * 60 + -vm)] 50)).alloc (.cells #[.string (bytes r9)] 9)).alloc (.cells #[.bool f9] 4)) := (((ht.alloc _).alloc _).alloc _).alloc _
        have bw9 : Below (w.alloc (.cells #[.int .i64 0, .int .i64 0, .int .i64 0, .int .i64 0, .int .i64 0, .int .i64 0, .int .i64 0, .int .i64 0] 50)).heap.size (w.alloc (.cells #[.int .i64 0, .int .i64 0, .int .i64 0, .int .i64 0, .int .i64 0, .int .i64 0, .int .i64 0, .int .i64 0] 50)) ((((w.alloc (.cells #[.int .i64 0, .int .i64 0, .int .i64 0, .int .i64 0, .int .i64 0, .int .i64 0, .int .i64 0, .int .i64 0] 50)).alloc (.cells #[.int .i64 v1, .int .i64 v2, .int .i64 v3, .int .i64 v4, .int .i64 v5, .int .i64 v6, .int .i64 0, .int .i64 (-vh * 60 + -vm)] 50)).alloc (.cells #[.string (bytes r9)] 9)).alloc (.cells #[.bool f9] 4)) :=
          (((Below.refl _ _).alloc (Nat.le_refl _) _).alloc (by simp) _).alloc (by simp <;> omega) _
        cases f9 with
        | false =>
          go_wp2
          go_step3
          change 0 = 0 ∧ GivesUp l w _ _
          exact ⟨rfl, by constructor, bw9, ⟨_, _, _, _, _, _, H1.out, H2.out, H3.out, H4.out, H5.out, H6.out, .inr ⟨rfl, _, _, HN.out, HZ.out, .inr ⟨(fun k => by cases k.1), rfl, rfl, rfl, rfl, rfl, rfl, rfl, rfl, rfl, rfl⟩⟩⟩⟩
        | true =>
          by_cases hmm : (-59 : Int) ≤ -vm ∧ -vm ≤ (59 : Int)
          · have hwi : withinB (-vm) (-59) 59 = true := decide_eq_true hmm
            have HM := Lib.hid hmm
            clear hmm
            go_wp2_with (go_at_call 65; refine (within_any _ _ _ _).mono ?_; rintro e w' ⟨rfl, rfl⟩)
            refine (right_any _ _ _ _ _ _ _ _ _ hw9).mono ?_
            rintro e w9 ⟨rfl, hb9⟩
            have bb9 := bw9.trans (hb9.mono (by simp <;> omega))
            obtain ⟨hc9, hf9⟩ := bcell hb9
            obtain ⟨hcb, hfb⟩ := bcell bb9
            have hz9 : w.heap.size + 3 < w9.heap.size := by have := hb9.size; simp at this; omega
            clear hw9 hwi
            by_cases hr : rightB v1 v2 v3 v4 v5 v6 0 (-vh * 60 + -vm) = true
            · go_wp2
              go_region
              go_wp2
              change bodyPost Tryz.prog Tryz.f44 (ParseAns l w) Exit.ret _ _
              refine bodyPost_ret (v := .tuple #[.agg #[.int .i64 v1, .int .i64 v2, .int .i64 v3, .int .i64 v4, .int .i64 v5, .int .i64 v6, .int .i64 0, .int .i64 (-vh * 60 + -vm)], .string (bytes r9), .int .i64 0])
                (by simp [results, Tryz.results44, go_sem, hcb]) rfl ⟨v1, v2, v3, v4, v5, v6, 0, -vh * 60 + -vm, r9, 0, rfl, ⟨_, _, _, _, _, _, H1.out, H2.out, H3.out, H4.out, H5.out, H6.out, .inr ⟨rfl, _, _, HN.out, HZ.out, .inl ⟨⟨rfl, HM.out, hr⟩, rfl, rfl, rfl, rfl, rfl, rfl, rfl, rfl, rfl, rfl⟩⟩⟩, ?_⟩
              exact store8 (((Below.refl _ _).alloc (Nat.le_refl _) _).trans (bb9.mono (by simp))) _ _ _ _ _ _ _ _
            · have hr' : rightB v1 v2 v3 v4 v5 v6 0 (-vh * 60 + -vm) = false := by simpa using hr
              have HR := Lib.hid hr
              clear hr
              go_wp2
              go_step3
              change 0 = 0 ∧ GivesUp l w _ _
              exact ⟨rfl, by constructor, bb9, ⟨_, _, _, _, _, _, H1.out, H2.out, H3.out, H4.out, H5.out, H6.out, .inr ⟨rfl, _, _, HN.out, HZ.out, .inr ⟨(fun k => HR.out k.2.2), rfl, rfl, rfl, rfl, rfl, rfl, rfl, rfl, rfl, rfl⟩⟩⟩⟩
          · have hwi : withinB (-vm) (-59) 59 = false := decide_eq_false hmm
            have HM := Lib.hid hmm
            clear hmm
            go_wp2_with (go_at_call 65; refine (within_any _ _ _ _).mono ?_; rintro e w' ⟨rfl, rfl⟩)
            go_step3
            change 0 = 0 ∧ GivesUp l w _ _
            exact ⟨rfl, by constructor, bw9, ⟨_, _, _, _, _, _, H1.out, H2.out, H3.out, H4.out, H5.out, H6.out, .inr ⟨rfl, _, _, HN.out, HZ.out, .inr ⟨(fun k => HM.out k.2.1), rfl, rfl, rfl, rfl, rfl, rfl, rfl, rfl, rfl, rfl⟩⟩⟩⟩
      · obtain ⟨vh, r8, f8, hT, lz, ah, bh⟩ := tk_parts [43] 2 r6 true
        obtain ⟨vm, r9, f9, hU, lu, am, bm⟩ := tk_parts [58] 2 r8 f8
        have HZ := Lib.hid (show zoneL r6 true = (vh, vm, r9, f9) by unfold zoneL; rw [if_neg (by rw [hz]; simp), if_neg (by rw [hq]; simp)]; simp only [hT, hU])
        have HT := Lib.hid hT
        have HU := Lib.hid hU
        have Hz := Lib.hid hz
        have Hq := Lib.hid hq
        have bh2 : vh < 100 := by have : (10 : Int) ^ 2 = 100 := rfl; omega
        have bm2 : vm < 100 := by have : (10 : Int) ^ 2 = 100 := rfl; omega
        clear hT hU hz hq bh bm
        go_wp2_with fail
        refine (has_t (sg := ⟨#[90]⟩) Hz.out rfl).mono ?_
        rintro e w' ⟨rfl, rfl⟩
        go_wp2_with fail
        refine (has_t (sg := ⟨#[45]⟩) Hq.out rfl).mono ?_
        rintro e w' ⟨rfl, rfl⟩
        go_wp2_with fail
        refine (take_t (sg := ⟨#[43]⟩) (k := 2) HT.out rfl (by omega) (by omega)).mono ?_
        rintro e w' ⟨rfl, rfl⟩
        go_wp2_with fail
        refine (take_t (sg := ⟨#[58]⟩) (k := 2) HU.out rfl (by omega) (by omega)).mono ?_
        rintro e w' ⟨rfl, rfl⟩
        clear HT HU Hz Hq
        have hw9 : Tab ((((w.alloc (.cells #[.int .i64 0, .int .i64 0, .int .i64 0, .int .i64 0, .int .i64 0, .int .i64 0, .int .i64 0, .int .i64 0] 50)).alloc (.cells #[.int .i64 v1, .int .i64 v2, .int .i64 v3, .int .i64 v4, .int .i64 v5, .int .i64 v6, .int .i64 0, .int .i64 (vh * 60 + vm)] 50)).alloc (.cells #[.string (bytes r9)] 9)).alloc (.cells #[.bool f9] 4)) := (((ht.alloc _).alloc _).alloc _).alloc _
        have bw9 : Below (w.alloc (.cells #[.int .i64 0, .int .i64 0, .int .i64 0, .int .i64 0, .int .i64 0, .int .i64 0, .int .i64 0, .int .i64 0] 50)).heap.size (w.alloc (.cells #[.int .i64 0, .int .i64 0, .int .i64 0, .int .i64 0, .int .i64 0, .int .i64 0, .int .i64 0, .int .i64 0] 50)) ((((w.alloc (.cells #[.int .i64 0, .int .i64 0, .int .i64 0, .int .i64 0, .int .i64 0, .int .i64 0, .int .i64 0, .int .i64 0] 50)).alloc (.cells #[.int .i64 v1, .int .i64 v2, .int .i64 v3, .int .i64 v4, .int .i64 v5, .int .i64 v6, .int .i64 0, .int .i64 (vh * 60 + vm)] 50)).alloc (.cells #[.string (bytes r9)] 9)).alloc (.cells #[.bool f9] 4)) :=
          (((Below.refl _ _).alloc (Nat.le_refl _) _).alloc (by simp) _).alloc (by simp <;> omega) _
        cases f9 with
        | false =>
          go_wp2
          go_step3
          change 0 = 0 ∧ GivesUp l w _ _
          exact ⟨rfl, by constructor, bw9, ⟨_, _, _, _, _, _, H1.out, H2.out, H3.out, H4.out, H5.out, H6.out, .inr ⟨rfl, _, _, HN.out, HZ.out, .inr ⟨(fun k => by cases k.1), rfl, rfl, rfl, rfl, rfl, rfl, rfl, rfl, rfl, rfl⟩⟩⟩⟩
        | true =>
          by_cases hmm : (-59 : Int) ≤ vm ∧ vm ≤ (59 : Int)
          · have hwi : withinB (vm) (-59) 59 = true := decide_eq_true hmm
            have HM := Lib.hid hmm
            clear hmm
            go_wp2_with (go_at_call 65; refine (within_any _ _ _ _).mono ?_; rintro e w' ⟨rfl, rfl⟩)
            refine (right_any _ _ _ _ _ _ _ _ _ hw9).mono ?_
            rintro e w9 ⟨rfl, hb9⟩
            have bb9 := bw9.trans (hb9.mono (by simp <;> omega))
            obtain ⟨hc9, hf9⟩ := bcell hb9
            obtain ⟨hcb, hfb⟩ := bcell bb9
            have hz9 : w.heap.size + 3 < w9.heap.size := by have := hb9.size; simp at this; omega
            clear hw9 hwi
            by_cases hr : rightB v1 v2 v3 v4 v5 v6 0 (vh * 60 + vm) = true
            · go_wp2
              go_region
              go_wp2
              change bodyPost Tryz.prog Tryz.f44 (ParseAns l w) Exit.ret _ _
              refine bodyPost_ret (v := .tuple #[.agg #[.int .i64 v1, .int .i64 v2, .int .i64 v3, .int .i64 v4, .int .i64 v5, .int .i64 v6, .int .i64 0, .int .i64 (vh * 60 + vm)], .string (bytes r9), .int .i64 0])
                (by simp [results, Tryz.results44, go_sem, hcb]) rfl ⟨v1, v2, v3, v4, v5, v6, 0, vh * 60 + vm, r9, 0, rfl, ⟨_, _, _, _, _, _, H1.out, H2.out, H3.out, H4.out, H5.out, H6.out, .inr ⟨rfl, _, _, HN.out, HZ.out, .inl ⟨⟨rfl, HM.out, hr⟩, rfl, rfl, rfl, rfl, rfl, rfl, rfl, rfl, rfl, rfl⟩⟩⟩, ?_⟩
              exact store8 (((Below.refl _ _).alloc (Nat.le_refl _) _).trans (bb9.mono (by simp))) _ _ _ _ _ _ _ _
            · have hr' : rightB v1 v2 v3 v4 v5 v6 0 (vh * 60 + vm) = false := by simpa using hr
              have HR := Lib.hid hr
              clear hr
              go_wp2
              go_step3
              change 0 = 0 ∧ GivesUp l w _ _
              exact ⟨rfl, by constructor, bb9, ⟨_, _, _, _, _, _, H1.out, H2.out, H3.out, H4.out, H5.out, H6.out, .inr ⟨rfl, _, _, HN.out, HZ.out, .inr ⟨(fun k => HR.out k.2.2), rfl, rfl, rfl, rfl, rfl, rfl, rfl, rfl, rfl, rfl⟩⟩⟩⟩
          · have hwi : withinB (vm) (-59) 59 = false := decide_eq_false hmm
            have HM := Lib.hid hmm
            clear hmm
            go_wp2_with (go_at_call 65; refine (within_any _ _ _ _).mono ?_; rintro e w' ⟨rfl, rfl⟩)
            go_step3
            change 0 = 0 ∧ GivesUp l w _ _
            exact ⟨rfl, by constructor, bw9, ⟨_, _, _, _, _, _, H1.out, H2.out, H3.out, H4.out, H5.out, H6.out, .inr ⟨rfl, _, _, HN.out, HZ.out, .inr ⟨(fun k => HM.out k.2.1), rfl, rfl, rfl, rfl, rfl, rfl, rfl, rfl, rfl, rfl⟩⟩⟩⟩
end Go.Proofs.YtmmghppjhmdikaaGreatDoor.Cal
