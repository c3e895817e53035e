/- The texts ElementsAny, ParseSums, CalSlots, one behind the other. -/
import Derived.Test.YtnaijahhogndjaaGreatDoorB18
import Derived.Test.YtnaijahhogndjaaGreatDoorB11
import Derived.Test.YtnaijahhogndjaaGreatDoorRows
/- What sysl.elements answers of every text. Condition: the size. -/
namespace Go.Proofs.YtnaijahhogndjaaGreatDoor
open Go.ChangeShapes Go.WideShapes Go.ChangeAt Go.RowKit

/-- What elements answers. -/
def ElementsAns (l : List UInt8) (w : World) (x : Ending) (w' : World) : Prop :=
  match elementsL l with
  | some p => ElmsAns w p.1 p.2 x w'
  | none => (∃ r, x = .returned (.tuple #[.slice none 0 0, .string (bytes r), .bool false])) ∧ Below w.heap.size w w'
theorem elements_yes {l : List UInt8} {es : List Elm} {t : List UInt8} {w : World} {x : Ending} {w' : World} (h : elementsL l = some (es, t)) (ha : ElmsAns w es t x w') : ElementsAns l w x w' := by
  unfold ElementsAns; rw [h]; exact ha
theorem elements_no {l : List UInt8} {w : World} {x : Ending} {w' : World} (h : elementsL l = none) (ha : (∃ r, x = .returned (.tuple #[.slice none 0 0, .string (bytes r), .bool false])) ∧ Below w.heap.size w w') : ElementsAns l w x w' := by
  unfold ElementsAns; rw [h]; exact ha
theorem elms_stop {n : Nat} {r : List UInt8} (h : Lib.hasPrefix r [91] = false) : elmsL n r = some ([], r) := by
  cases n with
  | zero => rfl
  | succ n => unfold elmsL; rw [if_neg (by rw [h]; decide)]
theorem elms_no {n : Nat} {r : List UInt8} (h : Lib.hasPrefix r [91] = true) (h1 : elementL r = none) : elmsL (n + 1) r = none := by
  unfold elmsL; rw [if_pos h, h1]
theorem elms_yes {n : Nat} {r t : List UInt8} {e : Elm} (h : Lib.hasPrefix r [91] = true) (h1 : elementL r = some (e, t)) : elmsL (n + 1) r = (elmsL n t).map fun z => (e :: z.1, z.2) := by
  conv => lhs; unfold elmsL
  rw [if_pos h, h1]
theorem open_head {r : List UInt8} (h : Lib.hasPrefix r [91] = true) : ∃ r0, r = 91 :: r0 := by
  cases r with
  | nil => cases h
  | cons c r0 =>
    have : (91 : UInt8) = c := by simpa [Lib.hasPrefix, List.isPrefixOf] using h
    exact ⟨r0, by rw [this]⟩
theorem prms_le : ∀ (n : Nat) (l : List UInt8) (p : List Prm × List UInt8), prmsL n l = some p → p.2.length ≤ l.length
  | 0, l, p, h => by cases h; exact Nat.le_refl _
  | n + 1, l, p, h => by
    unfold prmsL at h
    split at h
    · split at h
      · split at h
        · rename_i q hq
          cases hz : prmsL n q.2 with
          | none => rw [hz] at h; cases h
          | some z =>
            rw [hz] at h
            cases h
            have h1 := prms_le n q.2 z hz
            have h2 := (takeV_le _ _ q (Nat.le_refl _) hq).1
            have h3 := trim_le ((Lib.trimPrefix l [32]).drop (nameAt (Lib.trimPrefix l [32]))) [61, 34]
            have h4 := trim_le l [32]
            rw [List.length_drop] at h3
            simp only
            omega
        · cases h
      · cases h
    · cases h; exact Nat.le_refl _
theorem element_le {l : List UInt8} {p : Elm × List UInt8} (h : elementL l = some p) : p.2.length ≤ l.length := by
  unfold elementL at h
  split at h
  · rename_i q hq
    split at h
    · cases h
      have h1 := prms_le _ _ _ hq
      have h2 := trim_le q.2 [93]
      have h3 := trim_le l [91]
      rw [List.length_drop] at h1
      simp only
      omega
    · cases h
  · cases h
theorem elements_rest {l : List UInt8} (h : Lib.hasPrefix l [45] = false) : elementsL l = match elmsL 64 l with
    | some p => if p.1 = [] then none else some p
    | none => none := by
  unfold elementsL
  rw [if_neg (by rw [h]; decide)]
  rcases elmsL 64 l with _ | p <;> rfl
set_option maxHeartbeats 16000000 in
set_option maxRecDepth 100000 in
theorem elements_any (l : List UInt8) (w : World) (hl : l.length ≤ 1073741823) :
    Calls Tryz.prog 58 #[.string (bytes l)] w (ElementsAns l w) := by
  obtain ⟨i0, hi, hz0, hz1, hz2⟩ := info52_of
  have HI := Lib.hid hi
  have HI0 := Lib.hid hz0
  have HI1 := Lib.hid hz1
  have HI2 := Lib.hid hz2
  clear hi hz0 hz1 hz2
  have HC := Tryz.strings_CutPrefix (bytes l) ⟨#[45]⟩ w
  rw [bytes_list, show (⟨#[45]⟩ : ByteArray).data.toList = [45] from rfl] at HC
  cases h45 : Lib.hasPrefix l [45] with
  | true =>
    rw [h45] at HC
    have HEL := Lib.hid (show elementsL l = some ([], Lib.trimPrefix l [45]) by unfold elementsL; rw [if_pos h45])
    have HC' : Hid (Calls Tryz.prog 85 #[.string (bytes l), .string ⟨#[45]⟩] w fun e w' => e = .returned (.tuple #[.string (bytes (Lib.trimPrefix l [45])), .bool true]) ∧ w' = w) := Lib.hid HC
    clear HC h45
    go_enter Tryz.func58, Tryz.ntmps58
    go_wp2_with fail
    refine HC'.out.mono ?_
    rintro x w' ⟨rfl, rfl⟩
    go_wp2
    change bodyPost Tryz.prog Tryz.f58 (ElementsAns l w') Exit.ret _ _
    refine bodyPost_ret (v := .tuple #[.slice none 0 0, .string (bytes (Lib.trimPrefix l [45])), .bool true]) (by simp [results, Tryz.results58, go_sem]) rfl (elements_yes HEL.out ⟨none, 0, rfl, fun V _ => ElmsAt.nil V none 0, Below.refl _ _⟩)
  | false =>
    have htr : Lib.trimPrefix l [45] = l := by unfold Lib.trimPrefix; rw [h45]; rfl
    rw [h45, htr] at HC
    have HEL := Lib.hid (elements_rest h45)
    have HC' : Hid (Calls Tryz.prog 85 #[.string (bytes l), .string ⟨#[45]⟩] w fun e w' => e = .returned (.tuple #[.string (bytes l), .bool false]) ∧ w' = w) := Lib.hid HC
    clear HC h45 htr
    go_enter Tryz.func58, Tryz.ntmps58
    go_wp2_with fail
    refine HC'.out.mono ?_
    rintro x w' ⟨rfl, rfl⟩
    go_wp2
    go_loopg [2, 3] 65 (fun g lv rv wr => ∃ (es : List Elm) (rows : List Row) (r : List UInt8), es.length ≤ 64 ∧ es.length + g = 65 ∧ rv = .string (bytes r) ∧ r.length ≤ 1073741823 ∧ LAt w' wr lv es rows ∧ (es = [] → lv = .slice none 0 0) ∧ Hid (elmsL 64 l = (elmsL (64 - es.length) r).map fun z => (es ++ z.1, z.2)))
    case atStart => exact ⟨[], [], l, by simp, by simp, rfl, hl, LAt.start _, fun _ => rfl, Lib.hid (by simp)⟩
    case round =>
      obtain ⟨es, rows, r, hk, hg, rfl, hrl, hE, hnil0, HER⟩ := hrel
      obtain ⟨la, lc, hlv⟩ := hE.shape
      subst hlv
      have HNIL := Lib.hid hnil0
      clear hnil0
      by_cases hk64 : es.length < 64
      · obtain ⟨n, hn⟩ : ∃ n, 64 - es.length = n + 1 := ⟨63 - es.length, by omega⟩
        cases hp : Lib.hasPrefix r [91] with
        | true =>
          have HP := Lib.hid (fun W => prefix_is ⟨#[91]⟩ r true hp W)
          obtain ⟨r0, hr0⟩ := open_head hp
          subst hr0
          have hEl := fun W => element_any r0 W (by simp at hrl; omega)
          cases hx : elementL (91 :: r0) with
          | none =>
            have HNO := Lib.hid (show elementsL l = none by rw [HEL.out, HER.out, hn, elms_no hp hx]; rfl)
            have HEl : Hid (∀ W, Calls Tryz.prog 87 #[.string (bytes (91 :: r0))] W fun x w' => ∃ id la n lc r, x = .returned (.tuple #[.agg #[.string id, .slice la n lc], .string r, .bool false]) ∧ Below W.heap.size W w') := Lib.hid fun W => (hEl W).mono fun x w' h => by
              unfold ElementAns at h; rw [hx] at h; exact h
            clear hEl hx hp HER
            go_wp2_with fail
            refine (HP.out _).mono ?_
            rintro x w1 ⟨rfl, rfl⟩
            go_wp2_with fail
            refine (HEl.out _).mono ?_
            rintro x w2 ⟨id2, la2, n2, lc2, r2, rfl, hB⟩
            have HB2 := Lib.hid (hE.below hB).b
            clear hE hB
            go_wp2
            change bodyPost Tryz.prog Tryz.f58 (ElementsAns l w') Exit.ret _ _
            refine bodyPost_ret (v := .tuple #[.slice none 0 0, .string (bytes []), .bool false]) (by simp [results, Tryz.results58, go_sem]; rfl) rfl (elements_no HNO.out ⟨⟨_, rfl⟩, ?_⟩)
            first
              | exact HB2.out
              | exact HB2.out.alloc HB2.out.size _
              | exact (HB2.out.alloc HB2.out.size _).trans ((Below.refl _ _))
          | some et =>
            obtain ⟨e, R'⟩ := et
            have hle := element_le hx
            have hrl' : R'.length ≤ 1073741823 := by simp only at hle; omega
            have HYES := Lib.hid (elms_yes (n := n) hp hx)
            have HEl : Hid (∀ W, Calls Tryz.prog 87 #[.string (bytes (91 :: r0))] W (ElemAns W e R')) := Lib.hid fun W => (hEl W).mono fun x w' h => by
              unfold ElementAns at h; rw [hx] at h; exact h
            clear hEl hx hp hle
            go_wp2_with fail
            refine (HP.out _).mono ?_
            rintro x w1 ⟨rfl, rfl⟩
            go_wp2_with fail
            refine (HEl.out _).mono ?_
            rintro x w2 ⟨pa, pc, rfl, hB, hpo⟩
            have hsz0 := hE.b.size
            have h2 := hE.below hB
            clear hE
            have hb2 : Below w2.heap.size w2 ((w2.alloc (.cells #[.string e.1, .slice pa e.2.length pc] 52)).alloc (.cells #[.string e.1, .slice pa e.2.length pc] 52)) := ((Below.refl _ _).alloc (Nat.le_refl _) _).alloc (by simp) _
            have hsz := h2.b.size
            have h3 := h2.below hb2
            have hpo3 := kept_below (row_mono hpo (show w'.heap.size ≤ w1.heap.size + 2 by omega)) hb2
            have own3 := h3.own
            have hN := cells_new (w2.alloc (.cells #[.string e.1, .slice pa e.2.length pc] 52)) #[.string e.1, .slice pa e.2.length pc] 52
            rw [show (w2.alloc (.cells #[.string e.1, .slice pa e.2.length pc] 52)).heap.size = w2.heap.size + 1 by simp] at hN
            have HN := Lib.hid hN
            have O3 := Lib.hid own3
            have H3 := Lib.hid h3
            have HPO := Lib.hid hpo3
            clear hN own3 h3 hpo3 hpo h2 hb2 hB
            go_wp2_with (at_builtin; refine wpList_append_own _ rfl _ _ 22 rfl w'.heap.size 52 i0 (.agg #[.string ⟨#[]⟩, .slice none 0 0]) 2 40 Tryz.underlying22 HI.out HI0.out HI1.out HI2.out rfl (by decide) _ es.length _ rfl O3.out ⟨w2.heap.size + 1, 0, none⟩ 1 1 [.string e.1, .slice pa e.2.length pc] rfl rfl HN.out (by simp [Value.oneCell']) (by unfold maxLen; omega) (by omega) (by simp; omega) ?_; intro v1 w3 hown1 hgrow1 _; obtain ⟨a1, cap1, rfl⟩ := slice_of hown1)
            have hpush := H3.out.push HPO.out hgrow1 hown1
            have HER2 := Lib.hid (show elmsL 64 l = (elmsL (64 - (es.length + 1)) R').map fun z => ((es ++ [e]) ++ z.1, z.2) by
              rw [HER.out, hn, HYES.out, show 64 - (es.length + 1) = n by omega, Option.map_map]
              congr 1
              funext z
              simp)
            go_roundg (gk - 1)
            case measure => omega
            case rel => exact ⟨es ++ [e], _, R', by simp; omega, by simp; omega, rfl, hrl', hpush, fun h => by simp at h, by rw [show (es ++ [e]).length = es.length + 1 by simp]; exact HER2⟩
        | false =>
          have HP := Lib.hid (fun W => prefix_is ⟨#[91]⟩ r false hp W)
          have HAL := Lib.hid (show elmsL 64 l = some (es, r) by rw [HER.out, elms_stop hp]; simp)
          clear hp HER
          go_wp2_with fail
          refine (HP.out _).mono ?_
          rintro x w1 ⟨rfl, rfl⟩
          have HE := Lib.hid hE
          clear hE
          by_cases hes : es = []
          · subst hes
            have HNO := Lib.hid (show elementsL l = none by rw [HEL.out, HAL.out]; rfl)
            have hnil : la = none ∧ lc = 0 := by
              have h := HNIL.out rfl
              cases h
              exact ⟨rfl, rfl⟩
            obtain ⟨rfl, rfl⟩ := hnil
            go_wp2
            change bodyPost Tryz.prog Tryz.f58 (ElementsAns l w') Exit.ret _ _
            refine bodyPost_ret (v := .tuple #[.slice none 0 0, .string (bytes r), .bool false]) (by simp [results, Tryz.results58, go_sem]) rfl (elements_no HNO.out ⟨⟨_, rfl⟩, HE.out.b⟩)
          · have HYE := Lib.hid (show elementsL l = some (es, r) by rw [HEL.out, HAL.out]; show (if es = [] then none else some (es, r)) = _; rw [if_neg hes])
            have hpos : 0 < es.length := List.length_pos_iff.2 hes
            clear hes
            go_wp2
            change bodyPost Tryz.prog Tryz.f58 (ElementsAns l w') Exit.ret _ _
            refine bodyPost_ret (v := .tuple #[.slice la es.length lc, .string (bytes r), .bool true]) (by simp [results, Tryz.results58, go_sem]) rfl (elements_yes HYE.out ⟨la, lc, rfl, fun V hV => HE.out.elms hV, HE.out.b⟩)
      · have HAL := Lib.hid (show elmsL 64 l = some (es, r) by
          rw [HER.out, show 64 - es.length = 0 by omega]
          show (some ([], r)).map _ = _
          simp)
        clear HER
        have HE := Lib.hid hE
        clear hE
        by_cases hes : es = []
        · exact absurd (by rw [hes]; decide) hk64
        · have HYE := Lib.hid (show elementsL l = some (es, r) by rw [HEL.out, HAL.out]; show (if es = [] then none else some (es, r)) = _; rw [if_neg hes])
          have hpos : 0 < es.length := List.length_pos_iff.2 hes
          clear hes
          go_wp2
          change bodyPost Tryz.prog Tryz.f58 (ElementsAns l w') Exit.ret _ _
          refine bodyPost_ret (v := .tuple #[.slice la es.length lc, .string (bytes r), .bool true]) (by simp [results, Tryz.results58, go_sem]) rfl (elements_yes HYE.out ⟨la, lc, rfl, fun V hV => HE.out.elms hV, HE.out.b⟩)
end Go.Proofs.YtnaijahhogndjaaGreatDoor
/- How much of a text parameters and elements take: their own text is at most twice as long. -/
namespace Go.Proofs.YtnaijahhogndjaaGreatDoor
open Go.ChangeShapes Go.WideShapes Go.ChangeAt Go.RowKit

theorem takeV_sum : ∀ (n : Nat) (l : List UInt8) (p : List UInt8 × List UInt8), l.length ≤ n → takeV l = some p → p.1.length + p.2.length + 1 ≤ l.length
  | _, [], p, _, h => by cases h
  | _, [c], p, _, h => by
    unfold takeV at h
    split at h
    · cases h; simp
    · cases h
  | 0, c :: d :: r, p, hn, _ => by simp at hn
  | n + 1, c :: d :: r, p, hn, h => by
    rw [takeV] at h
    split at h
    · cases h; simp
    · split at h
      · cases h
      · split at h
        · cases hq : takeV r with
          | none => rw [hq] at h; cases h
          | some q =>
            rw [hq] at h
            cases h
            have := takeV_sum n r q (by simp at hn; omega) hq
            simp; omega
        · cases hq : takeV (d :: r) with
          | none => rw [hq] at h; cases h
          | some q =>
            rw [hq] at h
            cases h
            have := takeV_sum n (d :: r) q (by simp at hn ⊢; omega) hq
            simp at this ⊢; omega
theorem trim_len {l s : List UInt8} (h : Lib.hasPrefix l s = true) : (Lib.trimPrefix l s).length + s.length = l.length := by
  unfold Lib.trimPrefix
  rw [h]
  simp only [if_true, List.length_drop]
  have := (List.isPrefixOf_iff_prefix.1 (show s.isPrefixOf l = true from h)).length_le
  omega
theorem prms_sum : ∀ (n : Nat) (l : List UInt8) (p : List Prm × List UInt8), prmsL n l = some p → (prmsT p.1).length + 2 * p.2.length ≤ 2 * l.length
  | 0, l, p, h => by cases h; simp [prmsT]
  | n + 1, l, p, h => by
    unfold prmsL at h
    split at h
    · rename_i h1
      split at h
      · rename_i h2
        split at h
        · rename_i q hq
          cases hz : prmsL n q.2 with
          | none => rw [hz] at h; cases h
          | some z =>
            rw [hz] at h
            cases h
            have k1 := prms_sum n q.2 z hz
            have k2 := takeV_sum _ _ q (Nat.le_refl _) hq
            have k3 := trim_len h2
            have k4 := trim_len h1
            have k5 := (valueL_length q.1).2
            have k6 : nameAt (Lib.trimPrefix l [32]) ≤ (Lib.trimPrefix l [32]).length := List.findIdx_le_length
            rw [List.length_drop] at k3
            simp only [List.length_cons, List.length_nil] at k3 k4
            have e : prmsT ((bytes ((Lib.trimPrefix l [32]).take (nameAt (Lib.trimPrefix l [32]))), bytes q.1) :: z.1) = prmT (bytes ((Lib.trimPrefix l [32]).take (nameAt (Lib.trimPrefix l [32]))), bytes q.1) ++ prmsT z.1 := rfl
            simp only
            rw [e, List.length_append]
            have e2 : (prmT (bytes ((Lib.trimPrefix l [32]).take (nameAt (Lib.trimPrefix l [32]))), bytes q.1)).length = nameAt (Lib.trimPrefix l [32]) + (valueL q.1).length + 4 := by
              unfold prmT
              simp only [bytes_list, List.length_cons, List.length_append, List.length_take, List.length_nil]
              omega
            omega
        · cases h
      · cases h
    · cases h; simp [prmsT]
theorem element_sum {l : List UInt8} {p : Elm × List UInt8} (h : elementL l = some p) : (elmT p.1).length + 2 * p.2.length ≤ 2 * l.length := by
  unfold elementL at h
  split at h
  · rename_i q hq
    split at h
    · rename_i h1
      cases h
      have k1 := prms_sum _ _ _ hq
      have k2 := trim_len h1
      have k3 := trim_le l [91]
      have k6 : nameAt (Lib.trimPrefix l [91]) ≤ (Lib.trimPrefix l [91]).length := List.findIdx_le_length
      rw [List.length_drop] at k1
      simp only [List.length_cons, List.length_nil] at k2
      simp only
      have e2 : (elmT (bytes ((Lib.trimPrefix l [91]).take (nameAt (Lib.trimPrefix l [91]))), q.1)).length = nameAt (Lib.trimPrefix l [91]) + (prmsT q.1).length + 2 := by
        unfold elmT
        simp only [bytes_list, List.length_cons, List.length_append, List.length_take, List.length_nil]
        omega
      omega
    · cases h
  · cases h
theorem elms_sum : ∀ (n : Nat) (l : List UInt8) (p : List Elm × List UInt8), elmsL n l = some p → (elmsT p.1).length + 2 * p.2.length ≤ 2 * l.length
  | 0, l, p, h => by cases h; simp [elmsT]
  | n + 1, l, p, h => by
    unfold elmsL at h
    split at h
    · split at h
      · rename_i q hq
        cases hz : elmsL n q.2 with
        | none => rw [hz] at h; cases h
        | some z =>
          rw [hz] at h
          cases h
          have k1 := elms_sum n q.2 z hz
          have k2 := element_sum hq
          have e : elmsT (q.1 :: z.1) = elmT q.1 ++ elmsT z.1 := rfl
          simp only
          rw [e, List.length_append]
          omega
      · cases h
    · cases h; simp [elmsT]
theorem elements_sum {l : List UInt8} {p : List Elm × List UInt8} (h : elementsL l = some p) : (elmsT p.1).length + 2 * p.2.length ≤ 2 * l.length := by
  unfold elementsL at h
  split at h
  · cases h
    have := trim_le l [45]
    simp [elmsT]
    omega
  · split at h
    · rename_i q hq
      split at h
      · cases h
      · cases h; exact elms_sum _ _ _ hq
    · cases h
theorem mem_flat {α : Type} (f : α → List UInt8) : ∀ (l : List α) (x : α), x ∈ l → (f x).length ≤ (l.flatMap f).length
  | [], x, h => by cases h
  | y :: l, x, h => by
    rw [List.flatMap_cons, List.length_append]
    rcases List.mem_cons.1 h with rfl | h
    · omega
    · have := mem_flat f l x h; omega
theorem len_flat {α : Type} (f : α → List UInt8) (hf : ∀ x, 1 ≤ (f x).length) : ∀ l : List α, l.length ≤ (l.flatMap f).length
  | [] => Nat.le_refl _
  | y :: l => by
    rw [List.flatMap_cons, List.length_append, List.length_cons]
    have := len_flat f hf l
    have := hf y
    omega
/-- Elements whose text is short fit. -/
theorem fit_of_len {es : List Elm} (h : (elmsT es).length ≤ 1073741824) : ElmsFit es := by
  have h1 : es.length ≤ (elmsT es).length := len_flat elmT (fun e => by unfold elmT; simp) es
  refine ⟨by omega, fun e he => ?_⟩
  have h2 : (elmT e).length ≤ (elmsT es).length := mem_flat elmT es e he
  have e1 : (elmT e).length = e.1.size + (prmsT e.2).length + 2 := by
    unfold elmT
    simp only [List.length_cons, List.length_append, List.length_nil, list_size]
    omega
  have h3 : e.2.length ≤ (prmsT e.2).length := len_flat prmT (fun p => by unfold prmT; simp) e.2
  refine ⟨by omega, by omega, fun p hp => ?_⟩
  have h4 : (prmT p).length ≤ (prmsT e.2).length := mem_flat prmT e.2 p hp
  have h5 := (valueL_length p.2.data.toList).1
  have e2 : (prmT p).length = p.1.size + (valueL p.2.data.toList).length + 4 := by
    unfold prmT
    simp only [List.length_cons, List.length_append, List.length_nil, list_size]
    omega
  rw [list_size] at h5
  exact ⟨by omega, by omega⟩
theorem behind_len (l : List UInt8) : (behindL l).1.length ≤ l.length := by
  unfold behindL
  split
  · simp
  · have h1 := trim_le (Lib.trimPrefix l [32]) [239, 187, 191]
    have h2 := trim_le l [32]
    simp only
    omega
end Go.Proofs.YtnaijahhogndjaaGreatDoor
/- Frames of ninety-one slots whose third one is a place: named, opened and made at a stroke. -/
namespace Go.Proofs.YtnaijahhogndjaaGreatDoor.Cal
inductive Frame91 (b : Nat) : Act → Prop
  | mk (u0 u1 u3 u4 u5 u6 u7 u8 u9 u10 u11 u12 u13 u14 u15 u16 u17 u18 u19 u20 u21 u22 u23 u24 u25 u26 u27 u28 u29 u30 u31 u32 u33 u34 u35 u36 u37 u38 u39 u40 u41 u42 u43 u44 u45 u46 u47 u48 u49 u50 u51 u52 u53 u54 u55 u56 u57 u58 u59 u60 u61 u62 u63 u64 u65 u66 u67 u68 u69 u70 u71 u72 u73 u74 u75 u76 u77 u78 u79 u80 u81 u82 u83 u84 u85 u86 u87 u88 u89 u90 : Value) : Frame91 b { tmps := #[u0, u1, .pointer (some ⟨b, 0, none⟩), u3, u4, u5, u6, u7, u8, u9, u10, u11, u12, u13, u14, u15, u16, u17, u18, u19, u20, u21, u22, u23, u24, u25, u26, u27, u28, u29, u30, u31, u32, u33, u34, u35, u36, u37, u38, u39, u40, u41, u42, u43, u44, u45, u46, u47, u48, u49, u50, u51, u52, u53, u54, u55, u56, u57, u58, u59, u60, u61, u62, u63, u64, u65, u66, u67, u68, u69, u70, u71, u72, u73, u74, u75, u76, u77, u78, u79, u80, u81, u82, u83, u84, u85, u86, u87, u88, u89, u90], defers := [] }
end Go.Proofs.YtnaijahhogndjaaGreatDoor.Cal
