/-
  BriefParts returns true for every two rows of briefs that are of bulk at most 1048576 together: what is told of all right briefs is what is told of two parts of them, joined; as many are told as they are.
  Condition: the one of the given statement BriefPartsUptoSaid (what is read holds at most 1048576 values).
-/
import Derived.Test.YtloknemmodmkiaaOpenRows
import Derived.Test.YtloknemmodmkiaaRef
import Derived.JoinedCond
import Derived.Laws.AppendOwnNone
namespace Go.Proofs.Ytloknemmodmkiaa.briefParts
open Go.ChangeShapes Go.WideShapes Go.ChangeAt Go.RowKit Go.Joins

/-- An append whose guard says yes, by what its run comes to. -/
theorem wpList_append_eq {P : Program} {w : World} {ops : Array Oper} {rest : List Oper} {o : Oper} {a : Act} {Q : Exit → Act → World → Prop} (hw : Region.wanted o (yielded ops a.tmps) = true) (s x : Operand) (t : TypeId)
    (ho : o.op = .call { callee := .builtin .append, args := #[s, x], argTypes := #[t, t] }) (v y v' : Value) (w' : World) (hs : a.eval s = v) (hx : a.eval x = y)
    (hr : (Builtin.append_ #[t, t] o.type #[v, y]).run P w = .ok v' w') (h : wpList P ops Q rest (a.put o.dst v') w') : wpList P ops Q (o :: rest) a w := by
  refine BigFrame.wpList_want hw fun K hK => ?_
  unfold Oper.wp execOp
  simp only [ho, resolve, invoke, builtin, Sem.run_bind, Sem.run_pure, Result.andThen_ok, List.map_toArray, List.map_cons, List.map_nil, hs, hx, hr]
  exact hK _ _ h

theorem flat_length (bs : List Br) : (bs.flatMap bcells).length = bs.length * 6 := by
  induction bs with
  | nil => rfl
  | cons x bs ih => rw [List.flatMap_cons, List.length_append, ih, bcells_length, List.length_cons]; omega
theorem flat_cells {W : World} {b off n : Nat} {bs : List Br} (h : BrsAt W (some ⟨b, off, none⟩) n bs) (j : Nat) (u : Value) (hu : (bs.flatMap bcells)[j]? = some u) : W.cell? ((⟨b, off, none⟩ : Addr).add j) = some u := by
  obtain ⟨hj, _⟩ := List.getElem?_eq_some_iff.1 hu
  rw [flat_length] at hj
  have hl := h.1
  obtain ⟨b', off', e, _, hc⟩ := h.2 (by omega)
  cases e
  obtain ⟨x, hx⟩ : ∃ x, bs[j / 6]? = some x := ⟨bs[j / 6]'(by omega), List.getElem?_eq_getElem _⟩
  obtain ⟨c0, c1, c2, c3, c4, c5⟩ := hc _ x hx
  have hf := flat_at bs (j / 6) x hx (j % 6) (Nat.mod_lt _ (by decide))
  have hjj : j / 6 * 6 + j % 6 = j := by omega
  rw [hjj, hu] at hf
  rw [add_at]
  have hm : j % 6 < 6 := Nat.mod_lt _ (by decide)
  have key : ∀ r, r < 6 → some u = (bcells x)[r]? → W.cell? ⟨b, off + (j / 6 * 6 + r), none⟩ = some u := by
    intro r hr e
    rw [← Nat.add_assoc]
    match r, hr with
    | 0, _ => rw [Nat.add_zero, c0]; exact e.symm
    | 1, _ => rw [c1]; exact e.symm
    | 2, _ => rw [c2]; exact e.symm
    | 3, _ => rw [c3]; exact e.symm
    | 4, _ => rw [c4]; exact e.symm
    | 5, _ => rw [c5]; exact e.symm
  have := key (j % 6) hm hf
  rw [hjj] at this
  exact this

/-- A row of briefs appended to a row of the call's own. -/
theorem append_row (w : World) (base : Nat) (v : Value) (n : Nat) (xs : List Br) (hown : w.ownsRow base 30 6 v n (xs.flatMap bcells)) (A : Option Addr) (m c : Nat) (zs : List Br) (hr : BrsAt w A m zs) (hA : A = none → m = 0 ∧ c = 0)
    (hn : n + m ≤ 1048576) (hbase : base ≤ w.heap.size) :
    ∃ v' w', (Builtin.append_ #[36, 36] 36 #[v, .slice A m c]).run Try.prog w = .ok v' w' ∧ w'.ownsRow base 30 6 v' (n + m) ((xs ++ zs).flatMap bcells) ∧ w.grownBy w' v.ownBlock := by
  obtain ⟨i0, hi, hz0, hz1, hz2⟩ := info_of info30
  by_cases h0 : m = 0
  · subst h0
    have hz : zs = [] := List.eq_nil_of_length_eq_zero hr.1
    subst hz
    rcases A with _ | ad
    · obtain ⟨_, rfl⟩ := hA rfl
      exact ⟨v, w, run_append_owned_none (P := Try.prog) (w := w) base 36 36 30 i0 6 Try.underlying36 hi v n _ hown, by simpa using hown, World.grownBy.refl w _⟩
    · obtain ⟨v', w', h1, h2, h3, _⟩ := run_append_own (P := Try.prog) w base 36 36 30 i0 (.agg #[.int .i64 0, .int .i64 0, .int .u32 0, .int .u32 0, .int .u64 0, .bool false]) 6 40 Try.underlying36 hi hz0 hz1 hz2 rfl (by decide) v n _ hown ad 0 c [] (by simp) (fun j u hu => by simp at hu) (fun u hu => by simp at hu) (by unfold maxLen; omega) (by omega) hbase
      exact ⟨v', w', h1, by simpa using h2, h3⟩
  · obtain ⟨b, off, rfl, hb, hc⟩ := hr.2 (by omega)
    obtain ⟨v', w', h1, h2, h3, _⟩ := run_append_own (P := Try.prog) w base 36 36 30 i0 (.agg #[.int .i64 0, .int .i64 0, .int .u32 0, .int .u32 0, .int .u64 0, .bool false]) 6 40 Try.underlying36 hi hz0 hz1 hz2 rfl (by decide) v n _ hown ⟨b, off, none⟩ m c (zs.flatMap bcells) (by rw [flat_length, hr.1])
      (flat_cells hr) (fun u hu => by obtain ⟨x, _, hx⟩ := List.mem_flatMap.1 hu; exact bcells_one x u hx) (by unfold maxLen; omega) (by omega) hbase
    exact ⟨v', w', h1, by rw [List.flatMap_append]; exact h2, h3⟩

theorem fld30 (f l g r m : Int) (k : Bool) (W : World) : (Instr.field 30 (.agg #[.int .i64 f, .int .i64 l, .int .u32 g, .int .u32 r, .int .u64 m, .bool k]) 4).run Try.prog W = .ok (.int .u64 m) W := by kernel_rfl
theorem sum_bound (l : List Br) (h : ∀ x ∈ l, Fits x ∧ rightB x = true ∧ x.m ≤ 1099511627776) : 0 ≤ sumB l ∧ sumB l ≤ l.length * 1099511627776 := by
  induction l with
  | nil => exact ⟨Int.le_refl _, Int.le_refl _⟩
  | cons x l ih =>
    obtain ⟨i1, i2⟩ := ih fun b hb => h b (List.mem_cons_of_mem _ hb)
    obtain ⟨hf, _, hm⟩ := h x (List.mem_cons_self ..)
    have := hf.m1
    rw [sum_cons, List.length_cons]
    constructor
    · omega
    · have : ((l.length + 1 : Nat) : Int) * 1099511627776 = (l.length : Int) * 1099511627776 + 1099511627776 := by rw [Int.natCast_add, Int.add_mul]; simp
      omega

set_option maxHeartbeats 4000000 in
theorem walk (A : Option Addr) (n cap : Nat) (al : List Br) (A' : Option Addr) (n' cap' : Nat) (bs : List Br) (w : World) (hr : BrsAt w A n al) (hr' : BrsAt w A' n' bs) (hfa : ∀ b ∈ al, Fits b) (hfb : ∀ b ∈ bs, Fits b)
    (hA : A = none → n = 0 ∧ cap = 0) (hA' : A' = none → n' = 0 ∧ cap' = 0) (hn : n + n' ≤ 1048576) :
    Calls Try.prog 7 #[.slice A n cap, .slice A' n' cap'] w fun e w' => e = .returned (.bool true) ∧ Below w.heap.size w w' := by
  go_enter Try.func7, Try.ntmps7
  go_wp2_with fail
  refine (shown_any _).mono ?_
  rintro e w2 ⟨rfl, B2⟩
  have r2 := hr.below B2
  have s2 := hr'.below B2
  clear hr hr'
  obtain ⟨v4, w4, run4, own4, grow4⟩ := append_row (w2.alloc (.cells #[] 30)) w2.heap.size _ 0 [] (World.ownsRow_lit w2 #[] 0 (Nat.le_refl _) (by unfold maxLen; omega) rfl) A n cap al (r2.below (alloc_below _ _)) hA (by omega) (by simp)
  have B4 : Below w2.heap.size w2 w4 := (alloc_below w2 _).grown grow4 (by simp) (fun k hk => by cases hk; exact Nat.le_refl _)
  have lt4 := own4.lt
  rw [Nat.zero_add, List.nil_append] at own4
  obtain ⟨v5, w5, run5, own5, grow5⟩ := append_row w4 w2.heap.size v4 n _ own4 A' n' cap' bs (s2.below B4) hA' (by omega) B4.size
  have B5 : Below w2.heap.size w2 w5 := B4.grown grow5 B4.size (fun k hk => (lt4 k hk).1)
  obtain ⟨A5, c5, rfl, r5⟩ := own_brs own5
  have ra := r2.below B5
  have rb := s2.below B5
  have BW : Below w.heap.size w w5 := B2.trans (B5.mono B2.size)
  have R4 := Lib.hid run4
  have R5 := Lib.hid run5
  have hF : ∀ x ∈ al ++ bs, Fits x := fun x hx => by rcases List.mem_append.1 hx with h | h; exact hfa x h; exact hfb x h
  have hAll := r5.1
  have hla := ra.1
  have hlb := rb.1
  clear run4 run5 own4 own5 grow4 grow5 lt4 B4 r2 s2 B2 B5 hA hA'
  go_wp2_with (first
    | (refine wpList_append_eq rfl (.tmp 10) (.tmp 11) 36 rfl _ _ _ _ rfl rfl R4.out ?_)
    | (refine wpList_append_eq rfl (.tmp 12) (.tmp 13) 36 rfl _ _ _ _ rfl rfl R5.out ?_))
  go_loopw [6, 8] (fun s i wr => ∃ (k : Nat) (T : Int), k ≤ n + n' ∧ i = .int .i64 k ∧ s = .int .u64 T ∧ Hid (T = sumB ((al ++ bs).take k) ∧ (∀ x ∈ (al ++ bs).take k, Fits x ∧ rightB x = true ∧ x.m ≤ 1099511627776) ∧ (0 < k → n + n' ≤ 1000)) ∧ Below w5.heap.size w5 wr) (fun _ i _ => n + n' - (intOf i).toNat)
  case atStart => exact ⟨0, 0, Nat.zero_le _, rfl, rfl, Lib.hid ⟨rfl, (fun x hx => by simp at hx), fun h => by omega⟩, Below.refl _ _⟩
  case round =>
    rename World => v
    obtain ⟨k, T, hk, rfl, rfl, hH, hB⟩ := hrel
    have BB := BW.trans (hB.mono BW.size)
    by_cases hlt : k < n + n'
    · have rv := r5.below hB
      obtain ⟨b, off, rfl, hb, hc⟩ := rv.2 (by omega)
      obtain ⟨x, hx⟩ : ∃ x, (al ++ bs)[k]? = some x := ⟨(al ++ bs)[k]'(by omega), List.getElem?_eq_getElem _⟩
      obtain ⟨c0, c1, c2, c3, c4, c5⟩ := hc k x hx
      have hxf := hF x (List.mem_of_getElem? hx)
      obtain ⟨R, hR⟩ : ∃ R, rightB x = R := ⟨_, rfl⟩
      have HR := Lib.hid (fun W => right_R x hxf R hR W)
      have HX := Lib.hid hx
      have hxm1 := hxf.m1
      have HRR := Lib.hid hR
      clear hc hx hR
      have hkk : (k : Int) < ((n + n' : Nat) : Int) := by omega
      go_wp2_with fail
      refine (HR.out _).mono ?_
      rintro r w6 ⟨rfl, hb6⟩
      have B6 := BB.trans (hb6.mono BB.size)
      have hB6 := hB.trans (hb6.mono hB.size)
      have d4 := ((bcell hb6).1 b (off + k * 6 + 4) hb).trans c4
      clear hb6 c0 c1 c2 c3 c4 c5
      cases R
      case false =>
        go_wp2
        go_ret
        exact ⟨rfl, B6⟩
      by_cases m1 : 1099511627776 < x.m
      · go_wp2
        go_ret
        exact ⟨rfl, B6⟩
      by_cases m2 : 1000 < n + n'
      · have m3 : (1000 : Int) < ((n + n' : Nat) : Int) := by omega
        go_wp2
        go_ret
        exact ⟨rfl, B6⟩
      have m3 : ¬ (1000 : Int) < ((n + n' : Nat) : Int) := by omega
      obtain ⟨hT, hall, hle⟩ := hH.out
      have hs := sum_bound _ hall
      rw [← hT] at hs
      have hl : ((al ++ bs).take k).length ≤ k := List.length_take_le _ _
      obtain ⟨hs1, hs2⟩ := hs
      have hs3 : T ≤ 1099511627776000 := by
        have : (((al ++ bs).take k).length : Int) * 1099511627776 ≤ 1000 * 1099511627776 := Int.mul_le_mul_of_nonneg_right (by omega) (by decide)
        omega
      have HT := Lib.hid hT
      have HALL := Lib.hid hall
      clear hT hall hle hs2 hl
      go_wp2
      go_roundw
      case rel =>
        refine ⟨k + 1, T + x.m, by omega, by go_num, rfl, Lib.hid ⟨?_, ?_, fun _ => by omega⟩, hB6⟩
        · rw [sum_take_succ _ _ x HX.out, ← HT.out]
        · intro y hy
          obtain ⟨hk2, hxe⟩ := List.getElem?_eq_some_iff.1 HX.out
          rw [List.take_succ_eq_append_getElem hk2, hxe, List.mem_append, List.mem_singleton] at hy
          rcases hy with hy | rfl
          · exact HALL.out y hy
          · exact ⟨hxf, HRR.out, by omega⟩
      case measure => simp [intOf]; omega
    · obtain ⟨hT, hall, _⟩ := hH.out
      have htk : (al ++ bs).take k = al ++ bs := List.take_of_length_le (by omega)
      rw [htk] at hT hall
      have hsb := (sum_bound _ hall).2
      have hs0 := (sum_bound _ hall).1
      rw [← hT] at hsb hs0
      have hll : ((al ++ bs).length : Int) * 1099511627776 ≤ 1048576 * 1099511627776 := Int.mul_le_mul_of_nonneg_right (by omega) (by decide)
      have hnone : (none6).m = 0 := rfl
      obtain ⟨Z, hZ⟩ : ∃ Z, Z = foldB (al ++ bs) := ⟨_, rfl⟩
      obtain ⟨za, hza⟩ : ∃ Z, Z = foldB al := ⟨_, rfl⟩
      obtain ⟨zb, hzb⟩ : ∃ Z, Z = foldB bs := ⟨_, rfl⟩
      have hj : joinB za zb = Z := by
        rw [hza, hzb, hZ]
        refine (fold_append (fun x hx => ?_) (fun x hx => ?_) ?_).symm
        · have := hall x (List.mem_append_left _ hx); exact ⟨this.1, this.2.1⟩
        · have := hall x (List.mem_append_right _ hx); exact ⟨this.1, this.2.1⟩
        · rw [← sum_append, ← hT]; omega
      have hZm : Z.m = T := by
        have := (fold_from none_fits (fun x hx => (hall x hx).1) (by rw [hnone, ← hT]; omega)).2
        rw [hnone, ← hT] at this
        rw [hZ]
        show (List.foldl joinB none6 (al ++ bs)).m = T
        omega
      have H1 := Lib.hid (fun W (hW : Below w5.heap.size w5 W) => all_any A5 (n + n') c5 (al ++ bs) W (r5.below hW) (by omega) Z hZ)
      have H2 := Lib.hid (fun W (hW : Below w5.heap.size w5 W) => all_any A n cap al W (ra.below hW) (by omega) za hza)
      have H3 := Lib.hid (fun W (hW : Below w5.heap.size w5 W) => all_any A' n' cap' bs W (rb.below hW) (by omega) zb hzb)
      have H4 := Lib.hid (fun W => join_R za zb Z hj W)
      have hex : ∀ W, (Op.equalIn 10000 30 (.agg #[.int .i64 Z.f, .int .i64 Z.l, .int .u32 Z.g, .int .u32 Z.r, .int .u64 Z.m, .bool Z.k]) (.agg #[.int .i64 Z.f, .int .i64 Z.l, .int .u32 Z.g, .int .u32 Z.r, .int .u64 Z.m, .bool Z.k])).run Try.prog W = .ok true W := fun W => by rw [eq30, decide_eq_true rfl]
      have hgd := Try.eqGuardType30
      have HZM := Lib.hid hZm
      clear hT hall htk hsb hs0 hll hnone hZ hza hzb hj hZm hH
      go_wp2_with fail
      refine (H1.out _ hB).mono ?_
      rintro r w7 ⟨rfl, hb7⟩
      replace hB := hB.trans (hb7.mono hB.size)
      clear hb7
      go_wp2_with fail
      refine (H2.out _ hB).mono ?_
      rintro r w8 ⟨rfl, hb8⟩
      replace hB := hB.trans (hb8.mono hB.size)
      clear hb8
      go_wp2_with fail
      refine (H3.out _ hB).mono ?_
      rintro r w9 ⟨rfl, hb9⟩
      replace hB := hB.trans (hb9.mono hB.size)
      clear hb9
      go_wp2_with fail
      refine (H4.out _).mono ?_
      rintro r w10 ⟨rfl, hb10⟩
      replace hB := hB.trans (hb10.mono hB.size)
      clear hb10 BB
      by_cases h0 : T = 0
      · have e0 : (T == 0) = true := beq_iff_eq.2 h0
        have BB := BW.trans (hB.mono BW.size)
        clear h0
        go_wp2
        go_ret
        exact ⟨rfl, BB⟩
      · have e0 : (T == 0) = false := beq_eq_false_iff_ne.2 h0
        clear h0
        go_wp2_with fail
        refine (H1.out _ hB).mono ?_
        rintro r w11 ⟨rfl, hb11⟩
        replace hB := hB.trans (hb11.mono hB.size)
        have BB := BW.trans (hB.mono BW.size)
        have e1 : (Z.m == T) = true := beq_iff_eq.2 HZM.out
        have hfd : ∀ W : World, (Instr.field 30 (.agg #[.int .i64 Z.f, .int .i64 Z.l, .int .u32 Z.g, .int .u32 Z.r, .int .u64 Z.m, .bool Z.k]) 4).run Try.prog W = .ok (.int .u64 Z.m) W := fun W => fld30 Z.f Z.l Z.g Z.r Z.m Z.k W
        clear hb11
        go_wp2
        go_ret
        exact ⟨rfl, BB⟩

theorem bulk_len {H : Type} (l : List (DataW H)) : l.length ≤ Rows.uptoBulkAll l := by
  induction l with
  | nil => exact Nat.le_refl _
  | cons d l ih =>
    have h1 : 1 ≤ Rows.uptoBulk d := by cases d with
      | lit x => cases x <;> simp [Rows.uptoBulk]
      | _ => simp [Rows.uptoBulk]
    simp only [Rows.uptoBulkAll, List.length_cons]
    omega

theorem contract (H : Type) (enc : TypeId × Value → H) (W : World) (base : Nat) (args : Array Value) (ds gs : List (DataW H)) (before : List MemPlace)
    (hval : ∀ (j : Nat) t v, Try.f7.params[j]? = some t → args[j]? = some v → Value.okWide Try.prog W .any base t v)
    (hW : DataW.Whole enc Try.prog Try.f7.params.toList Rows.briefPartsSpec.vars false W args.toList ds gs before) (hk : Rows.uptoSmall H (ds ++ gs) = true) :
    Calls Try.prog 7 args W fun e W' => ∃ v, e = .returned v ∧ Rows.briefPartsSpec.post enc Try.prog Try.f7 false true false false W args v W' := by
  have hW' := hW
  obtain ⟨p, q, hA0, hV, rfl, hfz, hnd⟩ := hW
  have hA : DataW.TrodAll enc Try.prog W 0 (fun _ => true) true Try.f7.params.toList args.toList ds p := hA0
  rw [Try.params7] at hA hval
  obtain ⟨v0, vs0, d0, ds0, p0, q0, hargs, rfl, rfl, h0, r0⟩ := trodAll_cons hA
  obtain ⟨v1, vs1, d1, ds1, p1, q1, rfl, rfl, rfl, h1, r1⟩ := trodAll_cons r0
  obtain ⟨rfl, rfl, rfl⟩ := trodAll_nil r1
  obtain rfl : args = #[v0, v1] := by cases args; simp_all
  obtain ⟨rfl, rfl⟩ := trodVars_none hV
  have lt0 : ∀ x ∈ p0, x.block < W.heap.size := by obtain ⟨m, hm⟩ := h0; exact DataW.trod_lt m _ _ _ hm
  have lt1 : ∀ x ∈ p1, x.block < W.heap.size := by obtain ⟨m, hm⟩ := h1; exact DataW.trod_lt m _ _ _ hm
  obtain ⟨a0, len0, cap0, z0, rfl, w0, f0, n0, b0⟩ := open_brs (hval 0 36 v0 rfl rfl) h0
  obtain ⟨a1, len1, cap1, z1, rfl, w1, f1, n1, b1⟩ := open_brs (hval 1 36 v1 rfl rfl) h1
  have hb : Rows.uptoBulkAll [d0, d1] ≤ 1048576 := of_decide_eq_true hk
  simp only [Rows.uptoBulkAll] at hb
  have c0 : len0 ≤ Rows.uptoBulk d0 := by
    rcases b0 with rfl | ⟨l1, l2, rfl, hl⟩
    · omega
    · have := bulk_len l1
      simp only [Rows.uptoBulk]
      omega
  have c1 : len1 ≤ Rows.uptoBulk d1 := by
    rcases b1 with rfl | ⟨l1, l2, rfl, hl⟩
    · omega
    · have := bulk_len l1
      simp only [Rows.uptoBulk]
      omega
  clear hA0
  refine (walk a0 len0 cap0 z0 a1 len1 cap1 z1 W w0 w1 f0 f1 n0 n1 (by omega)).mono fun e W' ⟨he, bel⟩ => ?_
  subst he
  exact ⟨_, rfl, _, _, _, [], _, [], hW', trodAll_mk1 (shut_bool Try.underlying4 _), (trodAll_cons_mk (Below.trod laidOut (by kernel_rfl) (of_decide_eq_true (by kernel_rfl)) h0 bel lt0) (trodAll_cons_mk (Below.trod laidOut (by kernel_rfl) (of_decide_eq_true (by kernel_rfl)) h1 bel lt1) trodAll_mk0)), rfl, bel.frame _, fun h => by cases h⟩

set_option maxRecDepth 100000 in
theorem lifted (os : Os) (started : os.Started) (H : Type) (enc : TypeId × Value → H) (F : Stop.Interp) :
    ReturnsInHanded {} Try.checked os 7 .any ((Rows.OpenSpec.upto Rows.briefPartsSpec).pre6 enc Try.prog Try.f7 Rows.briefPartsUptoRow.domain false) (((Rows.OpenSpec.upto Rows.briefPartsSpec).at F).post enc Try.prog Try.f7 false true false false) := by
  refine returnsInHanded_of_cond (C := Try.checked) (s := Rows.OpenSpec.upto Rows.briefPartsSpec) (k := Rows.uptoSmall) rfl own started (by kernel_rfl) Try.func7
    (OpenSpec.witness (enc := enc) (C := Try.checked) (s := Rows.OpenSpec.upto Rows.briefPartsSpec) (k := Rows.uptoSmall) rfl false ⟨#[], #[.slice .none 0 0, .slice .none 0 0], []⟩ 8 (by kernel_rfl) (by kernel_rfl) (by kernel_rfl)
      (x := ([.nil, .nil], [], [])) (by kernel_rfl) rfl (by kernel_rfl)) ?_
  intro W base args ds gs before hval hW _ hk _
  exact contract H enc W base args ds gs before hval hW hk

theorem proved : Rows.BriefPartsUptoSaid :=
  OpenClaim.holds_of_cond 7 Try.f7 rfl rfl rfl rfl rfl rfl rfl ⟨rfl, rfl, rfl, rfl, rfl⟩ rfl rfl rfl rfl rfl (by kernel_rfl) Try.func7 (by kernel_rfl)
    (of_decide_eq_true (by kernel_rfl)) (by unfold Func.isWrapper; first | (rw [if_pos (by decide +kernel)]; kernel_rfl) | (rw [if_neg (by decide +kernel)]; exact ⟨rfl, rfl⟩))
    (fun os started H enc _ F => lifted os started H enc F)
#print axioms proved
end Go.Proofs.Ytloknemmodmkiaa.briefParts
