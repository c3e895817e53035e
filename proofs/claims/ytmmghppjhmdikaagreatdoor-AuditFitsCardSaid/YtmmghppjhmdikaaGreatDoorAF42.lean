/- What the document's own Parse answers of a text that has no head. Conditions: the tables stand; the size. -/
import Derived.Test.YtmmghppjhmdikaaGreatDoorAF26
namespace Go.Proofs.YtmmghppjhmdikaaGreatDoor
open Go.ChangeShapes Go.WideShapes Go.ChangeAt Go.RowKit
open Cal (nanosI ParsedAs numOf isDig)

set_option maxHeartbeats 16000000 in
set_option maxRecDepth 100000 in
theorem refParse_0 (s : ByteArray) (w : World) (hs : s.size ≤ 16777216) (hS : Std w) (hn : ¬ S1 s.data.toList) :
    Calls Tryz.prog 5 #[.string s] w (RefParseAns s.data.toList w) := by
  have hln : s.data.toList.length = s.size := list_size s
  have hF := fun (k : Nat) (a b : UInt8) W => find_any s k a b W (by omega)
  have hX : ∀ a b : Nat, s.extract a b = bytes ((s.data.toList.drop a).take (b - a)) := fun a b => by rw [Lib.extract_eq]; rfl
  have hG : ∀ (k : Nat) (h : k < s.size), s.data.toList[k]? = some s[k] := fun k h => Lib.data_getElem? s k h
  obtain ⟨L, hL⟩ : ∃ L, s.data.toList = L := ⟨_, rfl⟩
  simp only [hL] at hln hF hX hG hn ⊢
  have HL := Lib.hid hL
  have HF := Lib.hid hF
  have HX := Lib.hid hX
  have HG := Lib.hid hG
  have HS := Lib.hid hS
  have HN := Lib.hid hn
  clear hn
  clear hF hX hG hL hS
  obtain ⟨b1, hb1⟩ : ∃ b, Lib.hasPrefix (L.drop 0) [60] = b := ⟨_, rfl⟩
  have HB1 := begins_hid HL.out hs ⟨#[60]⟩ (by decide) (by decide) 0 (by omega) b1 hb1
  have HF0 := Lib.hid (fun W => HF.out 0 62 62 W)
  have hb0 : Below w.heap.size w (w.alloc Z24) := (Below.refl _ _).alloc (Nat.le_refl _) _
  have HB0 := Lib.hid hb0
  clear hb0
  by_cases hA : atB L 62 < L.length
  case neg =>
    have HNO := Lib.hid (ns1 (l := L) fun k r h => hA (head_facts h).2.2.2.2.2.1)
    have hf : findL L 0 62 62 = -1 := by rw [findL_one, List.drop_zero, if_neg hA]
    rw [hf] at HF0
    have HB2 := Lib.hid (fun W => begins_none s ⟨#[62, 49, 32]⟩ W)
    clear hA hf hln hb1
    cases b1 <;>
    · go_enter Tryz.func5, Tryz.ntmps5
      go_wp2_with fail
      refine (HF0.out _).mono ?_
      rintro x w1 ⟨rfl, rfl⟩
      go_wp2_with fail
      refine (HB1.out _).mono ?_
      rintro x w1 ⟨rfl, rfl⟩
      go_wp2_with fail
      refine (HB2.out _).mono ?_
      rintro x w1 ⟨rfl, rfl⟩
      go_wp2
      change bodyPost Tryz.prog Tryz.f5 (RefParseAns L w) Exit.ret _ _
      refine bodyPost_ret (v := .tuple #[.agg #[.int .i64 0, .int .i64 0, .bool false, .int .i64 0, .string ⟨#[]⟩, .string ⟨#[]⟩, .string ⟨#[]⟩, .string ⟨#[]⟩, .slice none 0 0, .string ⟨#[]⟩], .int .i64 3]) (by simp [results, Tryz.results5, go_sem]) rfl (bad_no (nod1 HNO.out) ?_)
      repeat first | exact HB0.out | refine Below.setCell ?_ (Nat.le_refl _) _
  case pos =>
    obtain ⟨p, hp⟩ : ∃ p, atB L 62 = p := ⟨_, rfl⟩
    have hf : findL L 0 62 62 = (p : Int) := by rw [findL_one, List.drop_zero, if_pos hA, Nat.zero_add, hp]
    rw [hp] at hA
    rw [hf] at HF0
    obtain ⟨b2, hb2⟩ : ∃ b, Lib.hasPrefix (L.drop p) [62, 49, 32] = b := ⟨_, rfl⟩
    have HB2 := begins_hid HL.out hs ⟨#[62, 49, 32]⟩ (by decide) (by decide) p (by omega) b2 hb2
    by_cases hQ : b1 = true ∧ b2 = true ∧ 2 ≤ p ∧ p ≤ 4
    case neg =>
      have HNO := Lib.hid (ns1 (l := L) fun k r h => hQ (by
        obtain ⟨f1, f2, f3, f4, f5, _⟩ := head_facts h
        rw [hp] at f3 f4 f5
        refine ⟨?_, ?_, f4, f5⟩
        · rw [← hb1, List.drop_zero, pre_cons, f1]; rfl
        · rw [← hb2, f3]; show List.isPrefixOf [62, 49, 32] (62 :: 49 :: 32 :: r) = true; simp [List.isPrefixOf]))
      clear hA hf hln hb1 hb2 hp
      cases b1 <;> cases b2
      case true.true =>
        have hc : p < 2 ∨ 4 < p := by
          rcases Nat.lt_or_ge p 2 with h | h
          · exact .inl h
          · exact .inr (Nat.lt_of_not_le fun h4 => hQ ⟨rfl, rfl, h, h4⟩)
        clear hQ
        rcases hc with hc | hc
        all_goals
          go_enter Tryz.func5, Tryz.ntmps5
          go_wp2_with fail
          refine (HF0.out _).mono ?_
          rintro x w1 ⟨rfl, rfl⟩
          go_wp2_with fail
          refine (HB1.out _).mono ?_
          rintro x w1 ⟨rfl, rfl⟩
          go_wp2_with fail
          refine (HB2.out _).mono ?_
          rintro x w1 ⟨rfl, rfl⟩
          go_wp2
          change bodyPost Tryz.prog Tryz.f5 (RefParseAns L w) Exit.ret _ _
          refine bodyPost_ret (v := .tuple #[.agg #[.int .i64 0, .int .i64 0, .bool false, .int .i64 0, .string ⟨#[]⟩, .string ⟨#[]⟩, .string ⟨#[]⟩, .string ⟨#[]⟩, .slice none 0 0, .string ⟨#[]⟩], .int .i64 3]) (by simp [results, Tryz.results5, go_sem]) rfl (bad_no (nod1 HNO.out) ?_)
          repeat first | exact HB0.out | refine Below.setCell ?_ (Nat.le_refl _) _
      all_goals
        clear hQ
        go_enter Tryz.func5, Tryz.ntmps5
        go_wp2_with fail
        refine (HF0.out _).mono ?_
        rintro x w1 ⟨rfl, rfl⟩
        go_wp2_with fail
        refine (HB1.out _).mono ?_
        rintro x w1 ⟨rfl, rfl⟩
        go_wp2_with fail
        refine (HB2.out _).mono ?_
        rintro x w1 ⟨rfl, rfl⟩
        go_wp2
        change bodyPost Tryz.prog Tryz.f5 (RefParseAns L w) Exit.ret _ _
        refine bodyPost_ret (v := .tuple #[.agg #[.int .i64 0, .int .i64 0, .bool false, .int .i64 0, .string ⟨#[]⟩, .string ⟨#[]⟩, .string ⟨#[]⟩, .string ⟨#[]⟩, .slice none 0 0, .string ⟨#[]⟩], .int .i64 3]) (by simp [results, Tryz.results5, go_sem]) rfl (bad_no (nod1 HNO.out) ?_)
        repeat first | exact HB0.out | refine Below.setCell ?_ (Nat.le_refl _) _
    case pos =>
      obtain ⟨rfl, rfl, hp2, hp4⟩ := hQ
      have HPP := Lib.hid hp
      obtain ⟨DS, hDS⟩ : ∃ D, (L.take p).drop 1 = D := ⟨_, rfl⟩
      have HDL := Lib.hid (show DS.length = p - 1 by rw [← hDS, List.length_drop, List.length_take]; omega)
      have HGD := Lib.hid (show ∀ m : Nat, m + 1 < p → DS[m]? = L[m + 1]? from fun m hm => by rw [← hDS, List.getElem?_drop, List.getElem?_take, if_pos (by omega), Nat.add_comm])
      have HDS := Lib.hid hDS
      have hps : p < s.size := by omega
      have HLN := Lib.hid hln
      have HHB1 := Lib.hid hb1
      have HHB2 := Lib.hid hb2
      have HHF := Lib.hid (fun k r (h : HeadD L k r) => head_facts h)
      clear hA hf hln hb1 hb2 hp hDS
      go_enter Tryz.func5, Tryz.ntmps5
      go_wp2_with fail
      refine (HF0.out _).mono ?_
      rintro x w1 ⟨rfl, rfl⟩
      go_wp2_with fail
      refine (HB1.out _).mono ?_
      rintro x w1 ⟨rfl, rfl⟩
      go_wp2_with fail
      refine (HB2.out _).mono ?_
      rintro x w1 ⟨rfl, rfl⟩
      clear HF0 HB1 HB2
      go_wp2
      go_loopw [7, 8] (fun v j wr => ∃ m n : Nat, m + 1 ≤ p ∧ j = .int .i64 ((m + 1 : Nat) : Int) ∧ v = .int .i64 ((n : Nat) : Int) ∧ Hid ((n : Int) = numOf (DS.take m)) ∧ Hid (∀ c ∈ DS.take m, isDig c = true) ∧ n < 10 ^ m ∧ wr = w.alloc Z24) (fun _ j _ => p - (intOf j).toNat)
      case atStart => exact ⟨0, 0, by omega, rfl, rfl, Lib.hid (by simp [Cal.numOf]), Lib.hid (by simp), by decide, rfl⟩
      case round =>
        obtain ⟨m, n, hm, rfl, rfl, HN, HD, hn, rfl⟩ := hrel
        by_cases hlt : m + 1 < p
        case pos =>
          have hp10 : 10 ^ m ≤ 10 ^ 2 := Nat.pow_le_pow_right (by decide) (by omega)
          have hn2 : n < 100 := by omega
          obtain ⟨i, hi⟩ : ∃ i, m + 1 = i := ⟨_, rfl⟩
          rw [hi] at hlt ⊢
          have his : i < s.size := by omega
          obtain ⟨c, hc⟩ : ∃ c : UInt8, s[i]'his = c := ⟨_, rfl⟩
          have hat : (((s[i]'his).toNat : Nat) : Int) = ((c.toNat : Nat) : Int) := by rw [hc]
          have hLc : DS[m]? = some c := by rw [HGD.out m (by omega), hi, HG.out i his, hc]
          have hsn := List.take_add_one (l := DS) (i := m)
          rw [hLc] at hsn
          have HSN := Lib.hid hsn
          have hcm := List.mem_of_getElem? hLc
          clear hsn hLc hc
          by_cases hdg : 48 ≤ c.toNat ∧ c.toNat ≤ 57
          case pos =>
            obtain ⟨d1, d2⟩ := hdg
            have q1 : decide (((c.toNat : Nat) : Int) < 48) = false := decide_eq_false (by omega)
            have q2 : decide (((c.toNat : Nat) : Int) > 57) = false := decide_eq_false (by omega)
            go_wp2
            refine ⟨⟨i, 10 * n + (c.toNat - 48), by omega, congrArg (Value.int IntKind.i64) (by omega), congrArg (Value.int IntKind.i64) (by omega), Lib.hid ?_, Lib.hid ?_, ?_, trivial⟩, ?_⟩
            · rw [← hi, HSN.out]
              show _ = Cal.numOf (DS.take m ++ [c])
              rw [Cal.numOf_snoc, ← HN.out]
              omega
            · rw [← hi, HSN.out]
              intro x hx
              rcases List.mem_append.1 hx with hx | hx
              · exact HD.out x hx
              · obtain rfl : x = c := by simpa using hx
                unfold isDig
                exact decide_eq_true (by omega)
            · rw [← hi, Nat.pow_succ]
              omega
            · simp only [intOf]
              omega
          case neg =>
            have HNO := Lib.hid (ns1 (l := L) fun k r h => hdg (by
              have f := (HHF.out k r h).2.2.2.2.2.2.2.1
              rw [HPP.out, HDS.out] at f
              have g := f c hcm
              unfold isDig at g
              have := of_decide_eq_true g
              omega))
            have hdg2 : c.toNat < 48 ∨ 57 < c.toNat := by omega
            clear hdg hcm
            rcases hdg2 with hdg | hdg
            all_goals
              go_wp2
              change bodyPost Tryz.prog Tryz.f5 (RefParseAns L w) Exit.ret _ _
              refine bodyPost_ret (v := .tuple #[.agg #[.int .i64 0, .int .i64 0, .bool false, .int .i64 0, .string ⟨#[]⟩, .string ⟨#[]⟩, .string ⟨#[]⟩, .string ⟨#[]⟩, .slice none 0 0, .string ⟨#[]⟩], .int .i64 3]) (by simp [results, Tryz.results5, go_sem]) rfl (bad_no (nod1 HNO.out) ?_)
              repeat first | exact HB0.out | refine Below.setCell ?_ (Nat.le_refl _) _
        case neg =>
          have hmp : m + 1 = p := by omega
          have hp10 : 10 ^ m ≤ 10 ^ 3 := Nat.pow_le_pow_right (by decide) (by omega)
          have hn3 : n < 1000 := by omega
          have hDm : DS.take m = DS := List.take_of_length_le (by rw [HDL.out]; omega)
          have hN := HN.out
          rw [hDm] at hN
          have HNK := Lib.hid (show ∀ k r, HeadD L k r → k = n from fun k r h => by
            have f := (HHF.out k r h).2.2.2.2.2.2.2.2
            rw [HPP.out, HDS.out, ← hN] at f
            omega)
          clear HN HD hDm hN hn hp10
          rw [hmp]
          clear hmp hlt hm
          by_cases h191 : 191 < n
          case pos =>
            have HNO := Lib.hid (ns1 (l := L) fun k r h => by have := HNK.out k r h; have := h.2; omega)
            clear HNK
            have q1 : decide ((191 : Int) < ((n : Nat) : Int)) = true := decide_eq_true (by omega)
            go_wp2_with fail
            have hT : (fun _ : World => True) ((w.alloc Z24).drew) := trivial
            refine wp_region_held_drew (S := fun _ => True) (by kernel_rfl) hT (fun _ => ?_)
            refine wpAnyH_take (i := 0) (v := ?_) rfl (by kernel_rfl) (by kernel_rfl) (by kernel_rfl) (fun _ _ _ h => h) (Or.inl ⟨by rfl, ?_⟩) (by assumption) ?_
            rotate_left
            · intro W hSw; (try dsimp only at hSw); go_simp; first | done | with_reducible rfl
            try simp only [Act.put, List.getElem_toArray, List.getElem_cons_zero, List.setIfInBounds_toArray, List.set_cons_zero, List.set_cons_succ]
            refine wpAnyH_take (i := 1) (v := ?_) rfl (by kernel_rfl) (by kernel_rfl) (by kernel_rfl) (fun _ _ _ h => h) (Or.inl ⟨by rfl, ?_⟩) (by assumption) ?_
            rotate_left
            · intro W hSw; (try dsimp only at hSw); go_simp; first | done | with_reducible rfl
            try simp only [Act.put, List.getElem_toArray, List.getElem_cons_zero, List.getElem_cons_succ, List.setIfInBounds_toArray, List.set_cons_zero, List.set_cons_succ]
            refine wpAnyH_take (i := 2) (v := ?_) rfl (by kernel_rfl) (by kernel_rfl) (by kernel_rfl) (fun _ _ _ h => h) (Or.inl ⟨by rfl, ?_⟩) (by assumption) ?_
            rotate_left
            · intro W hSw; (try dsimp only at hSw); go_simp; first | done | with_reducible rfl
            try simp only [Act.put, List.getElem_toArray, List.getElem_cons_zero, List.getElem_cons_succ, List.setIfInBounds_toArray, List.set_cons_zero, List.set_cons_succ]
            refine wpAnyH_take (i := 3) (v := undef) rfl (by kernel_rfl) (by kernel_rfl) (by kernel_rfl) (fun _ _ _ h => h) (Or.inr ⟨by rfl, rfl⟩) (by assumption) ?_
            try simp only [Act.put, List.getElem_toArray, List.getElem_cons_zero, List.getElem_cons_succ, List.setIfInBounds_toArray, List.set_cons_zero, List.set_cons_succ]
            refine wpAnyH_take (i := 4) (v := undef) rfl (by kernel_rfl) (by kernel_rfl) (by kernel_rfl) (fun _ _ _ h => h) (Or.inr ⟨by rfl, rfl⟩) (by assumption) ?_
            try simp only [Act.put, List.getElem_toArray, List.getElem_cons_zero, List.getElem_cons_succ, List.setIfInBounds_toArray, List.set_cons_zero, List.set_cons_succ]
            refine wpAnyH_take (i := 5) (v := undef) rfl (by kernel_rfl) (by kernel_rfl) (by kernel_rfl) (fun _ _ _ h => h) (Or.inr ⟨by rfl, rfl⟩) (by assumption) ?_
            try simp only [Act.put, List.getElem_toArray, List.getElem_cons_zero, List.getElem_cons_succ, List.setIfInBounds_toArray, List.set_cons_zero, List.set_cons_succ]
            refine wpAnyH_take (i := 6) (v := undef) rfl (by kernel_rfl) (by kernel_rfl) (by kernel_rfl) (fun _ _ _ h => h) (Or.inr ⟨by rfl, rfl⟩) (by assumption) ?_
            try simp only [Act.put, List.getElem_toArray, List.getElem_cons_zero, List.getElem_cons_succ, List.setIfInBounds_toArray, List.set_cons_zero, List.set_cons_succ]
            refine wpAnyH_take (i := 7) (v := undef) rfl (by kernel_rfl) (by kernel_rfl) (by kernel_rfl) (fun _ _ _ h => h) (Or.inr ⟨by rfl, rfl⟩) (by assumption) ?_
            try simp only [Act.put, List.getElem_toArray, List.getElem_cons_zero, List.getElem_cons_succ, List.setIfInBounds_toArray, List.set_cons_zero, List.set_cons_succ]
            refine wpAnyH_take (i := 8) (v := undef) rfl (by kernel_rfl) (by kernel_rfl) (by kernel_rfl) (fun _ _ _ h => h) (Or.inr ⟨by rfl, rfl⟩) (by assumption) ?_
            try simp only [Act.put, List.getElem_toArray, List.getElem_cons_zero, List.getElem_cons_succ, List.setIfInBounds_toArray, List.set_cons_zero, List.set_cons_succ]
            refine wpAnyH_take (i := 9) (v := ?_) rfl (by kernel_rfl) (by kernel_rfl) (by kernel_rfl) (fun _ _ _ h => h) (Or.inl ⟨by rfl, ?_⟩) (by assumption) ?_
            rotate_left
            · intro W hSw; (try dsimp only at hSw); go_simp; first | done | with_reducible rfl
            try simp only [Act.put, List.getElem_toArray, List.getElem_cons_zero, List.getElem_cons_succ, List.setIfInBounds_toArray, List.set_cons_zero, List.set_cons_succ]
            refine wpAnyH_done (by kernel_rfl) ?_ _
            go_wp2
            change bodyPost Tryz.prog Tryz.f5 (RefParseAns L w) Exit.ret _ _
            refine bodyPost_ret (v := .tuple #[.agg #[.int .i64 0, .int .i64 0, .bool false, .int .i64 0, .string ⟨#[]⟩, .string ⟨#[]⟩, .string ⟨#[]⟩, .string ⟨#[]⟩, .slice none 0 0, .string ⟨#[]⟩], .int .i64 3]) (by simp [results, Tryz.results5, go_sem]) rfl (bad_no (nod1 HNO.out) ?_)
            repeat first | exact HB0.out.drew | refine Below.setCell ?_ (Nat.le_refl _) _
          case neg =>
            have HDEC := Lib.hid (fun W => refDec_any 3 n W (by omega) (by decide))
            have hmq : decide ((191 : Int) < ((n : Nat) : Int)) = false := decide_eq_false (by omega)
            obtain ⟨DB, hDB⟩ : ∃ D, s.extract 1 p = D := ⟨_, rfl⟩
            have HDB := Lib.hid (show DB = bytes DS by rw [← hDB, HX.out, ← HDS.out, List.drop_take])
            have hsl : ∀ W, (Instr.slice 9 (.string s) (some (.int .i64 1)) (some (.int .i64 ((p : Nat) : Int))) none).run Tryz.prog W = .ok (.string DB) W := fun W => by
              rw [run_slice_string W 9 s .i64 .i64 _ _ Tryz.underlying9 (by omega) (by omega) (by omega), ← hDB, Int.toNat_natCast]; rfl
            obtain ⟨DN, hDN⟩ : ∃ D, bytes (Lib.decDigits n) = D := ⟨_, rfl⟩
            rw [hDN] at HDEC
            obtain ⟨q, hq⟩ : ∃ b, (DN.toList == DB.toList) = b := ⟨_, rfl⟩
            go_wp2_with fail
            go_region_held3 (fun _ => True)
              (first | trivial | assumption)
              (first | (go_at_call 11; refine (HDEC.out _).mono ?_; rintro e w' ⟨rfl, hz⟩))
            have hR1 := (rat_new w).below hz
            have hqq := eq_text DN DB
            rw [hq] at hqq
            cases q with
            | false =>
              have HNO := Lib.hid (ns1 (l := L) fun k r h => by
                obtain rfl := HNK.out k r h
                have f := (HHF.out k r h).2.2.2.2.2.2.1
                rw [HPP.out, HDS.out] at f
                have g : DN = DB := by rw [HDB.out, ← hDN, f]
                rw [decide_eq_true g] at hqq
                cases hqq)
              obtain ⟨hex, hfz, hBB, hz0⟩ := hR1
              obtain ⟨v0, e0⟩ := hex 0 (by decide)
              obtain ⟨v1, e1⟩ := hex 1 (by decide)
              obtain ⟨v2, e2⟩ := hex 2 (by decide)
              obtain ⟨v3, e3⟩ := hex 3 (by decide)
              obtain ⟨v4, e4⟩ := hex 4 (by decide)
              obtain ⟨v5, e5⟩ := hex 5 (by decide)
              obtain ⟨v6, e6⟩ := hex 6 (by decide)
              obtain ⟨v7, e7⟩ := hex 7 (by decide)
              obtain ⟨v8, e8⟩ := hex 8 (by decide)
              obtain ⟨v9, e9⟩ := hex 9 (by decide)
              have HBW := Lib.hid hBB
              clear hex hBB hz hqq HDEC hDN hDB hsl HNK
              go_wp2
              change bodyPost Tryz.prog Tryz.f5 (RefParseAns L w) Exit.ret _ _
              refine bodyPost_ret (v := .tuple #[.agg #[.int .i64 0, .int .i64 0, .bool false, .int .i64 0, .string ⟨#[]⟩, .string ⟨#[]⟩, .string ⟨#[]⟩, .string ⟨#[]⟩, .slice none 0 0, .string ⟨#[]⟩], .int .i64 3]) (by simp [results, Tryz.results5, go_sem, e0, e1, e2, e3, e4, e5, e6, e7, e8, e9]) rfl (bad_no (nod1 HNO.out) ?_)
              exact ((((((((((HBW.out.setCell (p := ⟨w.heap.size, 0, none⟩) (Nat.le_refl _) _).setCell (p := ⟨w.heap.size, 1, none⟩) (Nat.le_refl _) _).setCell (p := ⟨w.heap.size, 2, none⟩) (Nat.le_refl _) _).setCell (p := ⟨w.heap.size, 3, none⟩) (Nat.le_refl _) _).setCell (p := ⟨w.heap.size, 4, none⟩) (Nat.le_refl _) _).setCell (p := ⟨w.heap.size, 5, none⟩) (Nat.le_refl _) _).setCell (p := ⟨w.heap.size, 6, none⟩) (Nat.le_refl _) _).setCell (p := ⟨w.heap.size, 7, none⟩) (Nat.le_refl _) _).setCell (p := ⟨w.heap.size, 8, none⟩) (Nat.le_refl _) _).setCell (p := ⟨w.heap.size, 9, none⟩) (Nat.le_refl _) _)
            | true =>
              have hdd : Lib.decDigits n = DS := by
                have g : DN = DB := of_decide_eq_true hqq.symm
                rw [HDB.out, ← hDN] at g
                have := congrArg (fun x : ByteArray => x.data.toList) g
                simp only [bytes_list] at this
                exact this
              have HHEAD := Lib.hid (head_of (k := n) (p := p) (by have := HHB1.out; rw [List.drop_zero, pre_cons] at this; exact of_decide_eq_true this) hp2 HHB2.out (by omega) (by rw [hdd, HDS.out]))
              exact absurd ⟨_, _, HHEAD.out⟩ HN.out
end Go.Proofs.YtmmghppjhmdikaaGreatDoor
