/-
  BriefNone returns true for every row of events and every query: if nothing may match of some events, none does; what is told of all is right, and of no more than there are.
  Conditions: none (every input).
-/
import Derived.Test.YtloknemmodmkiaaOpenRows
import Derived.Test.YtloknemmodmkiaaRef
import Derived.Deep.RegionWith
namespace Go.Proofs.Ytloknemmodmkiaa.briefNone
open Go.ChangeShapes Go.WideShapes Go.ChangeAt Go.RowKit Go.Joins

/-- Cells of a query and of an event stay, whatever is made behind them. -/
theorem nextQE {w0 W W' : World} {x y o : Nat} {c0 c1 c2 c3 c4 c5 c6 c7 c8 c9 c10 c11 c12 c13 : Value} (l0 : x < w0.heap.size) (l1 : y < w0.heap.size) (h : W.cell? ⟨x, 0, none⟩ = some c0 ∧ W.cell? ⟨x, 1, none⟩ = some c1 ∧ W.cell? ⟨x, 2, none⟩ = some c2 ∧ W.cell? ⟨x, 3, none⟩ = some c3 ∧ W.cell? ⟨y, o, none⟩ = some c4 ∧ W.cell? ⟨y, o + 1, none⟩ = some c5 ∧ W.cell? ⟨y, o + 2, none⟩ = some c6 ∧ W.cell? ⟨y, o + 3, none⟩ = some c7 ∧ W.cell? ⟨y, o + 4, none⟩ = some c8 ∧ W.cell? ⟨y, o + 5, none⟩ = some c9 ∧ W.cell? ⟨y, o + 6, none⟩ = some c10 ∧ W.cell? ⟨y, o + 7, none⟩ = some c11 ∧ W.cell? ⟨y, o + 8, none⟩ = some c12 ∧ W.cell? ⟨y, o + 9, none⟩ = some c13 ∧ Below w0.heap.size w0 W) (hb : Below W.heap.size W W') : W'.cell? ⟨x, 0, none⟩ = some c0 ∧ W'.cell? ⟨x, 1, none⟩ = some c1 ∧ W'.cell? ⟨x, 2, none⟩ = some c2 ∧ W'.cell? ⟨x, 3, none⟩ = some c3 ∧ W'.cell? ⟨y, o, none⟩ = some c4 ∧ W'.cell? ⟨y, o + 1, none⟩ = some c5 ∧ W'.cell? ⟨y, o + 2, none⟩ = some c6 ∧ W'.cell? ⟨y, o + 3, none⟩ = some c7 ∧ W'.cell? ⟨y, o + 4, none⟩ = some c8 ∧ W'.cell? ⟨y, o + 5, none⟩ = some c9 ∧ W'.cell? ⟨y, o + 6, none⟩ = some c10 ∧ W'.cell? ⟨y, o + 7, none⟩ = some c11 ∧ W'.cell? ⟨y, o + 8, none⟩ = some c12 ∧ W'.cell? ⟨y, o + 9, none⟩ = some c13 ∧ Below w0.heap.size w0 W' := by
  obtain ⟨s0, s1, s2, s3, s4, s5, s6, s7, s8, s9, s10, s11, s12, s13, sb⟩ := h
  have hc := (bcell hb).1
  exact ⟨(hc _ _ (Nat.lt_of_lt_of_le l0 sb.size)).trans s0, (hc _ _ (Nat.lt_of_lt_of_le l0 sb.size)).trans s1, (hc _ _ (Nat.lt_of_lt_of_le l0 sb.size)).trans s2, (hc _ _ (Nat.lt_of_lt_of_le l0 sb.size)).trans s3, (hc _ _ (Nat.lt_of_lt_of_le l1 sb.size)).trans s4, (hc _ _ (Nat.lt_of_lt_of_le l1 sb.size)).trans s5, (hc _ _ (Nat.lt_of_lt_of_le l1 sb.size)).trans s6, (hc _ _ (Nat.lt_of_lt_of_le l1 sb.size)).trans s7, (hc _ _ (Nat.lt_of_lt_of_le l1 sb.size)).trans s8, (hc _ _ (Nat.lt_of_lt_of_le l1 sb.size)).trans s9, (hc _ _ (Nat.lt_of_lt_of_le l1 sb.size)).trans s10, (hc _ _ (Nat.lt_of_lt_of_le l1 sb.size)).trans s11, (hc _ _ (Nat.lt_of_lt_of_le l1 sb.size)).trans s12, (hc _ _ (Nat.lt_of_lt_of_le l1 sb.size)).trans s13, sb.trans (hb.mono sb.size)⟩

theorem match_R (q : Qu) (e : Ev) (R : Bool) (h : mayB q (evBr e) = R) (w : World) :
    Calls Try.prog 10 #[.agg #[.int .i64 q.f, .int .i64 q.l, .int .u32 q.g, .int .u32 q.r], .agg #[.int .i64 e.g, .int .i64 e.f, .bool e.t, .int .i64 e.a, .string e.ho, .string e.ap, .string e.pr, .string e.id, .slice e.la e.ln e.lc, .string e.tx]] w fun r w' => r = .returned (.bool R) ∧ Below w.heap.size w w' := by
  rw [← h]
  exact match_at q.f q.l q.g q.r e.g e.f e.a e.t e.ho e.ap e.pr e.id e.tx e.la e.ln e.lc w
theorem of_R (e : Ev) (w : World) :
    Calls Try.prog 14 #[.agg #[.int .i64 e.g, .int .i64 e.f, .bool e.t, .int .i64 e.a, .string e.ho, .string e.ap, .string e.pr, .string e.id, .slice e.la e.ln e.lc, .string e.tx], .bool false] w fun r w' => r = .returned (.agg #[.int .i64 (evBr e).f, .int .i64 (evBr e).l, .int .u32 (evBr e).g, .int .u32 (evBr e).r, .int .u64 (evBr e).m, .bool (evBr e).k]) ∧ Below w.heap.size w w' :=
  of_any e.g e.f e.a e.t e.ho e.ap e.pr e.id e.tx e.la e.ln e.lc false w

theorem all_fits (es : List Ev) : ∀ b ∈ es.map evBr, Fits b := by
  intro b hb
  obtain ⟨e, _, rfl⟩ := List.mem_map.1 hb
  exact of_fits ..
theorem all_right (es : List Ev) : ∀ b ∈ es.map evBr, Fits b ∧ rightB b = true := by
  intro b hb
  obtain ⟨e, _, rfl⟩ := List.mem_map.1 hb
  exact ⟨of_fits .., of_right ..⟩
theorem all_few (es : List Ev) : sumB (es.map evBr) ≤ es.length := by
  have := sum_le_length (l := es.map evBr) (by
    intro b hb
    obtain ⟨e, _, rfl⟩ := List.mem_map.1 hb
    exact of_many ..)
  simpa using this
theorem flat_snoc (es : List Ev) (k : Nat) (e : Ev) (h : es[k]? = some e) : ((es.map evBr).take (k + 1)).flatMap bcells = ((es.map evBr).take k).flatMap bcells ++ bcells (evBr e) := by
  have h2 : (es.map evBr)[k]? = some (evBr e) := by rw [List.getElem?_map, h]; rfl
  obtain ⟨hk, hx⟩ := List.getElem?_eq_some_iff.1 h2
  rw [List.take_succ_eq_append_getElem hk, List.flatMap_append, hx]
  simp

set_option maxHeartbeats 4000000 in
theorem walk (A : Option Addr) (n cap : Nat) (es : List Ev) (q : Qu) (w : World) (hA : EvsAt w A n es) (hq : QFits q) (hn : n ≤ 3000000000000) :
    Calls Try.prog 4 #[.slice A n cap, .agg #[.int .i64 q.f, .int .i64 q.l, .int .u32 q.g, .int .u32 q.r]] w fun e w' => e = .returned (.bool true) ∧ Below w.heap.size w w' := by
  obtain ⟨i0, hi, hz0, hz1, hz2⟩ := info_of info30
  have HI : Hid (Try.prog.info? 30 = some i0) := Lib.hid hi
  have HI0 := Lib.hid hz0
  have HI1 := Lib.hid hz1
  have HI2 := Lib.hid hz2
  clear hi hz0 hz1 hz2
  obtain ⟨z, hz⟩ : ∃ z, z = foldB (es.map evBr) := ⟨_, rfl⟩
  have hfew := all_few es
  have hlen := hA.1
  have hnone : (none6).m = 0 := rfl
  have hfold := fold_from none_fits (all_fits es) (by rw [hnone]; omega)
  have hzf : Fits z := by rw [hz]; exact hfold.1
  have hzm : z.m ≤ n := by rw [hz]; have := hfold.2; rw [hnone] at this; show (foldB _).m ≤ _; unfold foldB; omega
  have hzr : rightB z = true := by rw [hz]; exact fold_right none_fits rfl (all_right es) (by rw [hnone]; omega)
  obtain ⟨M, hM⟩ : ∃ M, mayB q z = M := ⟨_, rfl⟩
  have hmay : ∀ (k : Nat) e, es[k]? = some e → mayB q (evBr e) = true → M = true := fun k e he hm => by
    rw [← hM, hz]
    exact may_fold hq none_fits (all_fits es) (by rw [hnone]; omega) (.inr ⟨evBr e, List.mem_map.2 ⟨e, List.mem_of_getElem? he, rfl⟩, hm⟩)
  have HM := Lib.hid (fun W => may_R q z M hM W)
  have HZ := Lib.hid hz
  have HZR := Lib.hid (fun W => right_R z hzf true hzr W)
  have HZM := Lib.hid hzm
  have HMAY := Lib.hid hmay
  clear hfew hfold hzf hzm hzr hM hz hmay hnone hq
  go_enter Try.func4, Try.ntmps4
  go_wp2_with fail
  refine (shown_any _).mono ?_
  rintro e w2 ⟨rfl, hb2⟩
  have B2 : Below w.heap.size w w2 := (alloc_below w _).trans (hb2.mono (by simp))
  have Q2 : Box4 w2 w.heap.size q := (Box4.new w q).below hb2
  have E2 := hA.below B2
  clear hb2 hA
  go_wp2
  go_loopw [6, 7] (fun v i wr => ∃ k : Nat, k ≤ n ∧ i = .int .i64 k ∧ Hid (wr.ownsRow w2.heap.size 30 6 v k (((es.map evBr).take k).flatMap bcells)) ∧ Below w2.heap.size w2 wr) (fun _ i _ => n - (intOf i).toNat)
  case atStart => exact ⟨0, Nat.zero_le _, rfl, Lib.hid (World.ownsRow_nil _ _ _ _), Below.refl _ _⟩
  case round =>
    obtain ⟨k, hk, rfl, hown, hB⟩ := hrel
    by_cases hlt : k < n
    · obtain ⟨b, off, rfl, hb, hc⟩ := (E2.below hB).2 (by omega)
      obtain ⟨e, he⟩ : ∃ e, es[k]? = some e := ⟨es[k]'(by omega), List.getElem?_eq_getElem _⟩
      obtain ⟨c0, c1, c2, c3, c4, c5, c6, c7, c8, c9⟩ := hc k e he
      have HN := Lib.hid (flat_snoc es k e he)
      clear hc he
      go_wp2_with fail
      refine (of_R e _).mono ?_
      rintro r w3 ⟨rfl, hb3⟩
      have ow3 := owns_below hown.out hb3
      have B3 := hB.trans (hb3.mono hB.size)
      have lt3 := ow3.lt
      have HO := Lib.hid ow3
      clear hb3 hown hB ow3 c0 c1 c2 c3 c4 c5 c6 c7 c8 c9
      go_wp2_with (at_builtin; refine wpList_append_own _ rfl _ _ 36 rfl w2.heap.size 30 i0 (.agg #[.int .i64 0, .int .i64 0, .int .u32 0, .int .u32 0, .int .u64 0, .bool false]) 6 40 Try.underlying36 HI.out HI0.out HI1.out HI2.out rfl (by decide) _ k _ rfl (HO.out.alloc _) ⟨w3.heap.size, 0, none⟩ 1 1 (bcells (evBr e)) rfl rfl (cells_new w3 #[.int .i64 (evBr e).f, .int .i64 (evBr e).l, .int .u32 (evBr e).g, .int .u32 (evBr e).r, .int .u64 (evBr e).m, .bool (evBr e).k] 30) (bcells_one _) (by unfold maxLen; omega) (by omega) (by have := B3.size; simp; omega) ?_; intro v' w4 hown' hgrow _)
      go_roundw
      case rel =>
        refine ⟨k + 1, by omega, by go_num, Lib.hid ?_, (B3.alloc B3.size _).grown hgrow (by have := B3.size; simp; omega) (fun g hg => (lt3 g hg).1)⟩
        rw [HN.out]
        exact hown'
      case measure => simp [intOf]; omega
    · obtain rfl : k = n := by omega
      have htk : (es.map evBr).take k = es.map evBr := List.take_of_length_le (by simp; omega)
      have hown2 := hown.out
      rw [htk] at hown2
      obtain ⟨A', c', rfl, hbrs⟩ := own_brs hown2
      have HBR := Lib.hid (all_any A' k c' (es.map evBr) wr hbrs (by omega) z HZ.out)
      have BQ := B2.trans (hB.mono B2.size)
      have Qr := Q2.below hB
      have Er := E2.below hB
      clear hown hown2 htk hbrs B2 Q2 E2 hB hlen HZ
      go_wp2_with fail
      refine (HBR.out).mono ?_
      rintro r w5 ⟨rfl, hb5⟩
      have B5 := BQ.trans (hb5.mono BQ.size)
      have Q5 := Qr.below hb5
      have E5 := Er.below hb5
      have g0 : ∀ o, (w5.alloc o).cell? ⟨w.heap.size, 0, none⟩ = some (.int .i64 q.f) := fun o => (Q5.below (alloc_below w5 o)).cells.1
      have g1 : ∀ o, (w5.alloc o).cell? ⟨w.heap.size, 1, none⟩ = some (.int .i64 q.l) := fun o => (Q5.below (alloc_below w5 o)).cells.2.1
      have g2 : ∀ o, (w5.alloc o).cell? ⟨w.heap.size, 2, none⟩ = some (.int .u32 q.g) := fun o => (Q5.below (alloc_below w5 o)).cells.2.2.1
      have g3 : ∀ o, (w5.alloc o).cell? ⟨w.heap.size, 3, none⟩ = some (.int .u32 q.r) := fun o => (Q5.below (alloc_below w5 o)).cells.2.2.2
      clear hb5 BQ Qr Er HBR
      go_wp2_with fail
      refine (HM.out _).mono ?_
      rintro r w6 ⟨rfl, hb6⟩
      have z6 : Box6 w6 w5.heap.size z := (Box6.new w5 z).below hb6
      have B56 : Below w5.heap.size w5 w6 := (alloc_below w5 _).trans (hb6.mono (by simp))
      have Q6 := Q5.below B56
      have E6 := E5.below B56
      have B6 := B5.trans (B56.mono B5.size)
      clear hb6 B56 Q5 E5 B5 g0 g1 g2 g3
      go_wp2
      go_loopw [10] (fun i wr => ∃ j : Nat, j ≤ k ∧ i = .int .i64 j ∧ Below w6.heap.size w6 wr) (fun i _ => k - (intOf i).toNat)
      case atStart => exact ⟨0, Nat.zero_le _, rfl, Below.refl _ _⟩
      case round =>
        rename World => v
        obtain ⟨j, hj, rfl, hBr⟩ := hrel
        by_cases hlt : j < k
        · obtain ⟨b, off, rfl, hb, hc⟩ := (E6.below hBr).2 (by omega)
          have hlen := E6.1
          obtain ⟨e, he⟩ : ∃ e, es[j]? = some e := ⟨es[j]'(by omega), List.getElem?_eq_getElem _⟩
          have hce := hc j e he
          have Qv := Q6.below hBr
          obtain ⟨Ri, hRi⟩ : ∃ R, mayB q (evBr e) = R := ⟨_, rfl⟩
          have HR := Lib.hid (fun W => match_R q e Ri hRi W)
          have hMi : Ri = true → M = true := fun h => HMAY.out j e he (hRi.trans h)
          have S0 : v.drew.cell? ⟨w.heap.size, 0, none⟩ = some (.int .i64 q.f) ∧ v.drew.cell? ⟨w.heap.size, 1, none⟩ = some (.int .i64 q.l) ∧ v.drew.cell? ⟨w.heap.size, 2, none⟩ = some (.int .u32 q.g) ∧ v.drew.cell? ⟨w.heap.size, 3, none⟩ = some (.int .u32 q.r) ∧ v.drew.cell? ⟨b, off + j * 10, none⟩ = some (.int .i64 e.g) ∧ v.drew.cell? ⟨b, off + j * 10 + 1, none⟩ = some (.int .i64 e.f) ∧ v.drew.cell? ⟨b, off + j * 10 + 2, none⟩ = some (.bool e.t) ∧ v.drew.cell? ⟨b, off + j * 10 + 3, none⟩ = some (.int .i64 e.a) ∧ v.drew.cell? ⟨b, off + j * 10 + 4, none⟩ = some (.string e.ho) ∧ v.drew.cell? ⟨b, off + j * 10 + 5, none⟩ = some (.string e.ap) ∧ v.drew.cell? ⟨b, off + j * 10 + 6, none⟩ = some (.string e.pr) ∧ v.drew.cell? ⟨b, off + j * 10 + 7, none⟩ = some (.string e.id) ∧ v.drew.cell? ⟨b, off + j * 10 + 8, none⟩ = some (.slice e.la e.ln e.lc) ∧ v.drew.cell? ⟨b, off + j * 10 + 9, none⟩ = some (.string e.tx) ∧ Below v.heap.size v v.drew := ⟨Qv.cells.1, Qv.cells.2.1, Qv.cells.2.2.1, Qv.cells.2.2.2, hce.1, hce.2.1, hce.2.2.1, hce.2.2.2.1, hce.2.2.2.2.1, hce.2.2.2.2.2.1, hce.2.2.2.2.2.2.1, hce.2.2.2.2.2.2.2.1, hce.2.2.2.2.2.2.2.2.1, hce.2.2.2.2.2.2.2.2.2, drew_below v⟩
          have lq := Qv.lt
          clear hc hce he hRi Qv hlen
          cases Ri
          case true =>
            obtain rfl := hMi rfl
            clear hMi
            go_wp2_with fail
            go_region_held3 (fun w' => w'.cell? ⟨w.heap.size, 0, none⟩ = some (.int .i64 q.f) ∧ w'.cell? ⟨w.heap.size, 1, none⟩ = some (.int .i64 q.l) ∧ w'.cell? ⟨w.heap.size, 2, none⟩ = some (.int .u32 q.g) ∧ w'.cell? ⟨w.heap.size, 3, none⟩ = some (.int .u32 q.r) ∧ w'.cell? ⟨b, off + j * 10, none⟩ = some (.int .i64 e.g) ∧ w'.cell? ⟨b, off + j * 10 + 1, none⟩ = some (.int .i64 e.f) ∧ w'.cell? ⟨b, off + j * 10 + 2, none⟩ = some (.bool e.t) ∧ w'.cell? ⟨b, off + j * 10 + 3, none⟩ = some (.int .i64 e.a) ∧ w'.cell? ⟨b, off + j * 10 + 4, none⟩ = some (.string e.ho) ∧ w'.cell? ⟨b, off + j * 10 + 5, none⟩ = some (.string e.ap) ∧ w'.cell? ⟨b, off + j * 10 + 6, none⟩ = some (.string e.pr) ∧ w'.cell? ⟨b, off + j * 10 + 7, none⟩ = some (.string e.id) ∧ w'.cell? ⟨b, off + j * 10 + 8, none⟩ = some (.slice e.la e.ln e.lc) ∧ w'.cell? ⟨b, off + j * 10 + 9, none⟩ = some (.string e.tx) ∧ Below v.heap.size v w')
              (first
                | assumption
                | exact nextQE lq hb S0 (by assumption)
                | exact nextQE lq hb (by assumption) (by assumption)
                | exact S0)
              (first
                | (go_at_call 10; (with_reducible refine (HR.out _).mono ?_); rintro e w' ⟨rfl, hx⟩))
            rename_i hS
            have B9 := hBr.trans (hS.2.2.2.2.2.2.2.2.2.2.2.2.2.2.mono hBr.size)
            clear hS S0
            go_wp2
            go_roundw
            case rel => exact ⟨j + 1, by omega, by go_num, B9⟩
            case measure => simp [intOf]; omega
          case false =>
            clear hMi
            go_wp2_with fail
            obtain ⟨s0, s1, s2, s3, s4, s5, s6, s7, s8, s9, s10, s11, s12, s13, _⟩ := S0
            first
              | go_region_with (first | (go_at_call 10; (with_reducible refine (HR.out _).mono ?_); rintro e w' ⟨rfl, hx⟩))
              | fail
            all_goals
              have B9 := hBr.trans (((drew_below v).trans (hx.mono (by simp))).mono hBr.size)
              go_wp2
              go_roundw
              case rel => exact ⟨j + 1, by omega, by go_num, B9⟩
              case measure => simp [intOf]; omega
        · obtain rfl : j = k := by omega
          have zv := z6.below hBr
          have Bv := B6.trans (hBr.mono B6.size)
          obtain ⟨d0, d1, d2, d3, d4, d5⟩ := zv.cells
          clear z6 hBr B6 Q6 E6
          go_wp2_with fail
          refine (HZR.out _).mono ?_
          rintro r w7 ⟨rfl, hb7⟩
          have z7 := zv.below hb7
          have B7 := Bv.trans (hb7.mono Bv.size)
          obtain ⟨f0, f1, f2, f3, f4, f5⟩ := z7.cells
          have hle : decide (z.m ≤ (j : Int)) = true := decide_eq_true HZM.out
          clear hb7 zv Bv d0 d1 d2 d3 d4 d5 z7
          go_wp2
          go_ret
          exact ⟨rfl, B7⟩

set_option maxRecDepth 100000 in
theorem lifted (os : Os) (started : os.Started) (H : Type) (enc : TypeId × Value → H) :
    ReturnsInHanded {} Try.checked os 4 .any (Rows.briefNoneSpec.pre6 enc Try.prog Try.f4 Rows.briefNoneRow.domain false) (Rows.briefNoneSpec.post enc Try.prog Try.f4 false true false false) := by
  refine returnsInHanded_of_change_sized (C := Try.checked) own started (by kernel_rfl) Try.func4
    (ChangeSpec.witness6 (enc := enc) (C := Try.checked) false ⟨#[], #[.slice .none 0 0, .agg #[.int .i64 0, .int .i64 0, .int .u32 0, .int .u32 0]], []⟩ 8 (by kernel_rfl) (by kernel_rfl) (by kernel_rfl) (by kernel_rfl)) ?_
  intro W base args ds gs before hval0 hW hcnd hsz0 _
  have hval : ∀ (j : Nat) t v, Try.f4.params[j]? = some t → args[j]? = some v → Value.okWide Try.prog W .any base t v := hval0
  have hsz : (DataW.weightsEach Try.prog (Try.f4.params.toList ++ Rows.briefNoneSpec.plain.varTypes Try.prog) (ds ++ gs)).all (· ≤ reachBytes) = true := hsz0
  have hW' := hW
  obtain ⟨p, q, hA0, hV, rfl, hfz, hnd⟩ := hW
  have hA : DataW.TrodAll enc Try.prog W 0 (fun _ => true) true Try.f4.params.toList args.toList ds p := hA0
  rw [Try.params4] at hA hval hsz
  obtain ⟨v0, vs0, d0, ds0, p0, q0, hargs, rfl, rfl, h0, r0⟩ := trodAll_cons hA
  obtain ⟨v1, vs1, d1, ds1, p1, q1, rfl, rfl, rfl, h1, r1⟩ := trodAll_cons r0
  obtain ⟨rfl, rfl, rfl⟩ := trodAll_nil r1
  obtain rfl : args = #[v0, v1] := by cases args; simp_all
  obtain ⟨rfl, rfl⟩ := trodVars_none hV
  have lt0 : ∀ x ∈ p0, x.block < W.heap.size := by obtain ⟨m, hm⟩ := h0; exact DataW.trod_lt m _ _ _ hm
  have lt1 : ∀ x ∈ p1, x.block < W.heap.size := by obtain ⟨m, hm⟩ := h1; exact DataW.trod_lt m _ _ _ hm
  obtain ⟨A, n, cap, es, rfl, hes, hn⟩ := open_evs (hval 0 35 v0 rfl rfl) h0
  obtain ⟨qu, rfl, hq⟩ := open_query (hval 1 24 v1 rfl rfl) h1
  have hN := hn (fun m hm => by
    have hx := List.all_eq_true.1 hsz m (DataW.weights_mem_each (j := 0) (t := 35) rfl rfl _ hm)
    simpa using hx)
  clear hA0 hval0 hsz0
  refine (walk A n cap es qu W hes hq hN).mono fun e W' ⟨he, bel⟩ => ?_
  subst he
  exact ⟨_, rfl, _, _, _, [], _, [], hW', trodAll_mk1 (shut_bool Try.underlying4 _), (trodAll_cons_mk (Below.trod laidOut (by kernel_rfl) (of_decide_eq_true (by kernel_rfl)) h0 bel lt0) (trodAll_cons_mk (Below.trod laidOut (by kernel_rfl) (of_decide_eq_true (by kernel_rfl)) h1 bel lt1) trodAll_mk0)), rfl, bel.frame _, fun h => by cases h⟩

theorem over : Rows.briefNoneRow.holds Try.pinned (OpenSpec.ofChange Rows.briefNoneSpec) :=
  OpenClaim.holds_of_wide 4 Try.f4 rfl rfl rfl rfl rfl rfl rfl ⟨rfl, rfl, rfl, rfl, rfl⟩ rfl rfl rfl rfl rfl (by kernel_rfl) Try.func4 (by kernel_rfl)
    (of_decide_eq_true (by kernel_rfl)) (by unfold Func.isWrapper; first | (rw [if_pos (by decide +kernel)]; kernel_rfl) | (rw [if_neg (by decide +kernel)]; exact ⟨rfl, rfl⟩))
    (fun os started H enc _ => lifted os started H enc)

theorem proved : Rows.BriefNoneSaid := over
#print axioms proved
end Go.Proofs.Ytloknemmodmkiaa.briefNone
