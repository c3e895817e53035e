/- What sysl.elements answers of every text. Condition: the size. -/
import Derived.Test.YtnaijahhogndjaaGreatDoorBG33
import Derived.Test.YtnaijahhogndjaaGreatDoorBG25
namespace Go.Proofs.YtnaijahhogndjaaGreatDoor
open Go.ChangeShapes Go.WideShapes Go.ChangeAt Go.RowKit

/-- What elements answers. -/
def ElementsAns (l : List UInt8) (w : World) (x : Ending) (w' : World) : Prop :=
  match elementsL l with
  | some p => ElmsAns w p.1 p.2 x w'
  | none => (∃ r, x = .returned (.tuple #[.slice none 0 0, .string (bytes r), .bool false])) ∧ Below w.heap.size w w'
theorem elements_yes {l : List UInt8} {es : List Elm} {t : List UInt8} {w : World} {x : Ending} {w' : World} (h : elementsL l = some (es, t)) (ha : ElmsAns w es t x w') : ElementsAns l w x w' := by
  unfold ElementsAns; rw [h]; exact ha
theorem elements_no {l : List UInt8} {w : World} {x : Ending} {w' : World} (h : elementsL l = none) (ha : (∃ r, x = .returned (.tuple #[.slice none 0 0, .string (bytes r), .bool false])) ∧ Below w.heap.size w w') : ElementsAns l w x w' := by
  unfold ElementsAns; rw [h]; exact ha
theorem elms_stop {n : Nat} {r : List UInt8} (h : Lib.hasPrefix r [91] = false) : elmsL n r = some ([], r) := by
  cases n with
  | zero => rfl
  | succ n => unfold elmsL; rw [if_neg (by rw [h]; decide)]
theorem elms_no {n : Nat} {r : List UInt8} (h : Lib.hasPrefix r [91] = true) (h1 : elementL r = none) : elmsL (n + 1) r = none := by
  unfold elmsL; rw [if_pos h, h1]
theorem elms_yes {n : Nat} {r t : List UInt8} {e : Elm} (h : Lib.hasPrefix r [91] = true) (h1 : elementL r = some (e, t)) : elmsL (n + 1) r = (elmsL n t).map fun z => (e :: z.1, z.2) := by
  conv => lhs; unfold elmsL
  rw [if_pos h, h1]
theorem open_head {r : List UInt8} (h : Lib.hasPrefix r [91] = true) : ∃ r0, r = 91 :: r0 := by
  cases r with
  | nil => cases h
  | cons c r0 =>
    have : (91 : UInt8) = c := by simpa [Lib.hasPrefix, List.isPrefixOf] using h
    exact ⟨r0, by rw [this]⟩
theorem prms_le : ∀ (n : Nat) (l : List UInt8) (p : List Prm × List UInt8), prmsL n l = some p → p.2.length ≤ l.length
  | 0, l, p, h => by cases h; exact Nat.le_refl _
  | n + 1, l, p, h => by
    unfold prmsL at h
    split at h
    · split at h
      · split at h
        · rename_i q hq
          cases hz : prmsL n q.2 with
          | none => rw [hz] at h; cases h
          | some z =>
            rw [hz] at h
            cases h
            have h1 := prms_le n q.2 z hz
            have h2 := (takeV_le _ _ q (Nat.le_refl _) hq).1
            have h3 := trim_le ((Lib.trimPrefix l [32]).drop (nameAt (Lib.trimPrefix l [32]))) [61, 34]
            have h4 := trim_le l [32]
            rw [List.length_drop] at h3
            simp only
            omega
        · cases h
      · cases h
    · cases h; exact Nat.le_refl _
theorem element_le {l : List UInt8} {p : Elm × List UInt8} (h : elementL l = some p) : p.2.length ≤ l.length := by
  unfold elementL at h
  split at h
  · rename_i q hq
    split at h
    · cases h
      have h1 := prms_le _ _ _ hq
      have h2 := trim_le q.2 [93]
      have h3 := trim_le l [91]
      rw [List.length_drop] at h1
      simp only
      omega
    · cases h
  · cases h
theorem elements_rest {l : List UInt8} (h : Lib.hasPrefix l [45] = false) : elementsL l = match elmsL 64 l with
    | some p => if p.1 = [] then none else some p
    | none => none := by
  unfold elementsL
  rw [if_neg (by rw [h]; decide)]
  rcases elmsL 64 l with _ | p <;> rfl
set_option maxHeartbeats 16000000 in
set_option maxRecDepth 100000 in
theorem elements_any (l : List UInt8) (w : World) (hl : l.length ≤ 1073741823) :
    Calls Tryz.prog 58 #[.string (bytes l)] w (ElementsAns l w) := by
  obtain ⟨i0, hi, hz0, hz1, hz2⟩ := info52_of
  have HI := Lib.hid hi
  have HI0 := Lib.hid hz0
  have HI1 := Lib.hid hz1
  have HI2 := Lib.hid hz2
  clear hi hz0 hz1 hz2
  have HC := Tryz.strings_CutPrefix (bytes l) ⟨#[45]⟩ w
  rw [bytes_list, show (⟨#[45]⟩ : ByteArray).data.toList = [45] from rfl] at HC
  cases h45 : Lib.hasPrefix l [45] with
  | true =>
    rw [h45] at HC
    have HEL := Lib.hid (show elementsL l = some ([], Lib.trimPrefix l [45]) by unfold elementsL; rw [if_pos h45])
    have HC' : Hid (Calls Tryz.prog 85 #[.string (bytes l), .string ⟨#[45]⟩] w fun e w' => e = .returned (.tuple #[.string (bytes (Lib.trimPrefix l [45])), .bool true]) ∧ w' = w) := Lib.hid HC
    clear HC h45
    go_enter Tryz.func58, Tryz.ntmps58
    go_wp2_with fail
    refine HC'.out.mono ?_
    rintro x w' ⟨rfl, rfl⟩
    go_wp2
    change bodyPost Tryz.prog Tryz.f58 (ElementsAns l w') Exit.ret _ _
    refine bodyPost_ret (v := .tuple #[.slice none 0 0, .string (bytes (Lib.trimPrefix l [45])), .bool true]) (by simp [results, Tryz.results58, go_sem]) rfl (elements_yes HEL.out ⟨none, 0, rfl, fun V _ => ElmsAt.nil V none 0, Below.refl _ _⟩)
  | false =>
    have htr : Lib.trimPrefix l [45] = l := by unfold Lib.trimPrefix; rw [h45]; rfl
    rw [h45, htr] at HC
    have HEL := Lib.hid (elements_rest h45)
    have HC' : Hid (Calls Tryz.prog 85 #[.string (bytes l), .string ⟨#[45]⟩] w fun e w' => e = .returned (.tuple #[.string (bytes l), .bool false]) ∧ w' = w) := Lib.hid HC
    clear HC h45 htr
    go_enter Tryz.func58, Tryz.ntmps58
    go_wp2_with fail
    refine HC'.out.mono ?_
    rintro x w' ⟨rfl, rfl⟩
    go_wp2
    go_loopg [2, 3] 65 (fun g lv rv wr => ∃ (es : List Elm) (rows : List Row) (r : List UInt8), es.length ≤ 64 ∧ es.length + g = 65 ∧ rv = .string (bytes r) ∧ r.length ≤ 1073741823 ∧ LAt w' wr lv es rows ∧ (es = [] → lv = .slice none 0 0) ∧ Hid (elmsL 64 l = (elmsL (64 - es.length) r).map fun z => (es ++ z.1, z.2)))
    case atStart => exact ⟨[], [], l, by simp, by simp, rfl, hl, LAt.start _, fun _ => rfl, Lib.hid (by simp)⟩
    case round =>
      obtain ⟨es, rows, r, hk, hg, rfl, hrl, hE, hnil0, HER⟩ := hrel
      obtain ⟨la, lc, hlv⟩ := hE.shape
      subst hlv
      have HNIL := Lib.hid hnil0
      clear hnil0
      by_cases hk64 : es.length < 64
      · obtain ⟨n, hn⟩ : ∃ n, 64 - es.length = n + 1 := ⟨63 - es.length, by omega⟩
        cases hp : Lib.hasPrefix r [91] with
        | true =>
          have HP := Lib.hid (fun W => prefix_is ⟨#[91]⟩ r true hp W)
          obtain ⟨r0, hr0⟩ := open_head hp
          subst hr0
          have hEl := fun W => element_any r0 W (by simp at hrl; omega)
          cases hx : elementL (91 :: r0) with
          | none =>
            have HNO := Lib.hid (show elementsL l = none by rw [HEL.out, HER.out, hn, elms_no hp hx]; rfl)
            have HEl : Hid (∀ W, Calls Tryz.prog 87 #[.string (bytes (91 :: r0))] W fun x w' => ∃ id la n lc r, x = .returned (.tuple #[.agg #[.string id, .slice la n lc], .string r, .bool false]) ∧ Below W.heap.size W w') := Lib.hid fun W => (hEl W).mono fun x w' h => by
              unfold ElementAns at h; rw [hx] at h; exact h
            clear hEl hx hp HER
            go_wp2_with fail
            refine (HP.out _).mono ?_
            rintro x w1 ⟨rfl, rfl⟩
            go_wp2_with fail
            refine (HEl.out _).mono ?_
            rintro x w2 ⟨id2, la2, n2, lc2, r2, rfl, hB⟩
            have HB2 := Lib.hid (hE.below hB).b
            clear hE hB
            go_wp2
            change bodyPost Tryz.prog Tryz.f58 (ElementsAns l w') Exit.ret _ _
            refine bodyPost_ret (v := .tuple #[.slice none 0 0, .string (bytes []), .bool false]) (by simp [results, Tryz.results58, go_sem]; rfl) rfl (elements_no HNO.out ⟨⟨_, rfl⟩, ?_⟩)
            first
              | exact HB2.out
              | exact HB2.out.alloc HB2.out.size _
              | exact (HB2.out.alloc HB2.out.size _).trans ((Below.refl _ _))
          | some et =>
            obtain ⟨e, R'⟩ := et
            have hle := element_le hx
            have hrl' : R'.length ≤ 1073741823 := by simp only at hle; omega
            have HYES := Lib.hid (elms_yes (n := n) hp hx)
            have HEl : Hid (∀ W, Calls Tryz.prog 87 #[.string (bytes (91 :: r0))] W (ElemAns W e R')) := Lib.hid fun W => (hEl W).mono fun x w' h => by
              unfold ElementAns at h; rw [hx] at h; exact h
            clear hEl hx hp hle
            go_wp2_with fail
            refine (HP.out _).mono ?_
            rintro x w1 ⟨rfl, rfl⟩
            go_wp2_with fail
            refine (HEl.out _).mono ?_
            rintro x w2 ⟨pa, pc, rfl, hB, hpo⟩
            have hsz0 := hE.b.size
            have h2 := hE.below hB
            clear hE
            have hb2 : Below w2.heap.size w2 ((w2.alloc (.cells #[.string e.1, .slice pa e.2.length pc] 52)).alloc (.cells #[.string e.1, .slice pa e.2.length pc] 52)) := ((Below.refl _ _).alloc (Nat.le_refl _) _).alloc (by simp) _
            have hsz := h2.b.size
            have h3 := h2.below hb2
            have hpo3 := kept_below (row_mono hpo (show w'.heap.size ≤ w1.heap.size + 2 by omega)) hb2
            have own3 := h3.own
            have hN := cells_new (w2.alloc (.cells #[.string e.1, .slice pa e.2.length pc] 52)) #[.string e.1, .slice pa e.2.length pc] 52
            rw [show (w2.alloc (.cells #[.string e.1, .slice pa e.2.length pc] 52)).heap.size = w2.heap.size + 1 by simp] at hN
            have HN := Lib.hid hN
            have O3 := Lib.hid own3
            have H3 := Lib.hid h3
            have HPO := Lib.hid hpo3
            clear hN own3 h3 hpo3 hpo h2 hb2 hB
            go_wp2_with (at_builtin; refine wpList_append_own _ rfl _ _ 22 rfl w'.heap.size 52 i0 (.agg #[.string ⟨#[]⟩, .slice none 0 0]) 2 40 Tryz.underlying22 HI.out HI0.out HI1.out HI2.out rfl (by decide) _ es.length _ rfl O3.out ⟨w2.heap.size + 1, 0, none⟩ 1 1 [.string e.1, .slice pa e.2.length pc] rfl rfl HN.out (by simp [Value.oneCell']) (by unfold maxLen; omega) (by omega) (by simp; omega) ?_; intro v1 w3 hown1 hgrow1 _; obtain ⟨a1, cap1, rfl⟩ := slice_of hown1)
            have hpush := H3.out.push HPO.out hgrow1 hown1
            have HER2 := Lib.hid (show elmsL 64 l = (elmsL (64 - (es.length + 1)) R').map fun z => ((es ++ [e]) ++ z.1, z.2) by
              rw [HER.out, hn, HYES.out, show 64 - (es.length + 1) = n by omega, Option.map_map]
              congr 1
              funext z
              simp)
            go_roundg (gk - 1)
            case measure => omega
            case rel => exact ⟨es ++ [e], _, R', by simp; omega, by simp; omega, rfl, hrl', hpush, fun h => by simp at h, by rw [show (es ++ [e]).length = es.length + 1 by simp]; exact HER2⟩
        | false =>
          have HP := Lib.hid (fun W => prefix_is ⟨#[91]⟩ r false hp W)
          have HAL := Lib.hid (show elmsL 64 l = some (es, r) by rw [HER.out, elms_stop hp]; simp)
          clear hp HER
          go_wp2_with fail
          refine (HP.out _).mono ?_
          rintro x w1 ⟨rfl, rfl⟩
          have HE := Lib.hid hE
          clear hE
          by_cases hes : es = []
          · subst hes
            have HNO := Lib.hid (show elementsL l = none by rw [HEL.out, HAL.out]; rfl)
            have hnil : la = none ∧ lc = 0 := by
              have h := HNIL.out rfl
              cases h
              exact ⟨rfl, rfl⟩
            obtain ⟨rfl, rfl⟩ := hnil
            go_wp2
            change bodyPost Tryz.prog Tryz.f58 (ElementsAns l w') Exit.ret _ _
            refine bodyPost_ret (v := .tuple #[.slice none 0 0, .string (bytes r), .bool false]) (by simp [results, Tryz.results58, go_sem]) rfl (elements_no HNO.out ⟨⟨_, rfl⟩, HE.out.b⟩)
          · have HYE := Lib.hid (show elementsL l = some (es, r) by rw [HEL.out, HAL.out]; show (if es = [] then none else some (es, r)) = _; rw [if_neg hes])
            have hpos : 0 < es.length := List.length_pos_iff.2 hes
            clear hes
            go_wp2
            change bodyPost Tryz.prog Tryz.f58 (ElementsAns l w') Exit.ret _ _
            refine bodyPost_ret (v := .tuple #[.slice la es.length lc, .string (bytes r), .bool true]) (by simp [results, Tryz.results58, go_sem]) rfl (elements_yes HYE.out ⟨la, lc, rfl, fun V hV => HE.out.elms hV, HE.out.b⟩)
      · have HAL := Lib.hid (show elmsL 64 l = some (es, r) by
          rw [HER.out, show 64 - es.length = 0 by omega]
          show (some ([], r)).map _ = _
          simp)
        clear HER
        have HE := Lib.hid hE
        clear hE
        by_cases hes : es = []
        · exact absurd (by rw [hes]; decide) hk64
        · have HYE := Lib.hid (show elementsL l = some (es, r) by rw [HEL.out, HAL.out]; show (if es = [] then none else some (es, r)) = _; rw [if_neg hes])
          have hpos : 0 < es.length := List.length_pos_iff.2 hes
          clear hes
          go_wp2
          change bodyPost Tryz.prog Tryz.f58 (ElementsAns l w') Exit.ret _ _
          refine bodyPost_ret (v := .tuple #[.slice la es.length lc, .string (bytes r), .bool true]) (by simp [results, Tryz.results58, go_sem]) rfl (elements_yes HYE.out ⟨la, lc, rfl, fun V hV => HE.out.elms hV, HE.out.b⟩)
end Go.Proofs.YtnaijahhogndjaaGreatDoor
