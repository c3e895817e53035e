/- What the document's own Parse answers of a text whose elements are not there. Conditions: the tables stand; the size. -/
import Derived.Test.YtmmghppjhmdikaaGreatDoorAF26
namespace Go.Proofs.YtmmghppjhmdikaaGreatDoor
open Go.ChangeShapes Go.WideShapes Go.ChangeAt Go.RowKit
open Cal (nanosI ParsedAs numOf isDig)

set_option maxHeartbeats 16000000 in
set_option maxRecDepth 100000 in
theorem refParse_3 (s : ByteArray) (w : World) (hs : s.size ≤ 16777216) (hS : Std w) (hy : S3 s.data.toList) (hn : ¬ S4 s.data.toList) :
    Calls Tryz.prog 5 #[.string s] w (RefParseAns s.data.toList w) := by
  have hln : s.data.toList.length = s.size := list_size s
  have hF := fun (k : Nat) (a b : UInt8) W => find_any s k a b W (by omega)
  have hX : ∀ a b : Nat, s.extract a b = bytes ((s.data.toList.drop a).take (b - a)) := fun a b => by rw [Lib.extract_eq]; rfl
  have hG : ∀ (k : Nat) (h : k < s.size), s.data.toList[k]? = some s[k] := fun k h => Lib.data_getElem? s k h
  obtain ⟨L, hL⟩ : ∃ L, s.data.toList = L := ⟨_, rfl⟩
  simp only [hL] at hln hF hX hG hy hn ⊢
  have HL := Lib.hid hL
  have HF := Lib.hid hF
  have HX := Lib.hid hX
  have HG := Lib.hid hG
  have HS := Lib.hid hS
  have HY := Lib.hid hy
  clear hy
  have HN := Lib.hid hn
  clear hn
  clear hF hX hG hL hS
  obtain ⟨b1, hb1⟩ : ∃ b, Lib.hasPrefix (L.drop 0) [60] = b := ⟨_, rfl⟩
  have HB1 := begins_hid HL.out hs ⟨#[60]⟩ (by decide) (by decide) 0 (by omega) b1 hb1
  have HF0 := Lib.hid (fun W => HF.out 0 62 62 W)
  have hb0 : Below w.heap.size w (w.alloc Z24) := (Below.refl _ _).alloc (Nat.le_refl _) _
  have HB0 := Lib.hid hb0
  clear hb0
  by_cases hA : atB L 62 < L.length
  case neg =>
    have HNO := Lib.hid (ns1 (l := L) fun k r h => hA (head_facts h).2.2.2.2.2.1)
    exact absurd (s21 (s32 HY.out)) HNO.out
  case pos =>
    obtain ⟨p, hp⟩ : ∃ p, atB L 62 = p := ⟨_, rfl⟩
    have hf : findL L 0 62 62 = (p : Int) := by rw [findL_one, List.drop_zero, if_pos hA, Nat.zero_add, hp]
    rw [hp] at hA
    rw [hf] at HF0
    obtain ⟨b2, hb2⟩ : ∃ b, Lib.hasPrefix (L.drop p) [62, 49, 32] = b := ⟨_, rfl⟩
    have HB2 := begins_hid HL.out hs ⟨#[62, 49, 32]⟩ (by decide) (by decide) p (by omega) b2 hb2
    by_cases hQ : b1 = true ∧ b2 = true ∧ 2 ≤ p ∧ p ≤ 4
    case neg =>
      have HNO := Lib.hid (ns1 (l := L) fun k r h => hQ (by
        obtain ⟨f1, f2, f3, f4, f5, _⟩ := head_facts h
        rw [hp] at f3 f4 f5
        refine ⟨?_, ?_, f4, f5⟩
        · rw [← hb1, List.drop_zero, pre_cons, f1]; rfl
        · rw [← hb2, f3]; show List.isPrefixOf [62, 49, 32] (62 :: 49 :: 32 :: r) = true; simp [List.isPrefixOf]))
      exact absurd (s21 (s32 HY.out)) HNO.out
    case pos =>
      obtain ⟨rfl, rfl, hp2, hp4⟩ := hQ
      have HPP := Lib.hid hp
      obtain ⟨DS, hDS⟩ : ∃ D, (L.take p).drop 1 = D := ⟨_, rfl⟩
      have HDL := Lib.hid (show DS.length = p - 1 by rw [← hDS, List.length_drop, List.length_take]; omega)
      have HGD := Lib.hid (show ∀ m : Nat, m + 1 < p → DS[m]? = L[m + 1]? from fun m hm => by rw [← hDS, List.getElem?_drop, List.getElem?_take, if_pos (by omega), Nat.add_comm])
      have HDS := Lib.hid hDS
      have hps : p < s.size := by omega
      have HLN := Lib.hid hln
      have HHB1 := Lib.hid hb1
      have HHB2 := Lib.hid hb2
      have HHF := Lib.hid (fun k r (h : HeadD L k r) => head_facts h)
      clear hA hf hln hb1 hb2 hp hDS
      go_enter Tryz.func5, Tryz.ntmps5
      go_wp2_with fail
      refine (HF0.out _).mono ?_
      rintro x w1 ⟨rfl, rfl⟩
      go_wp2_with fail
      refine (HB1.out _).mono ?_
      rintro x w1 ⟨rfl, rfl⟩
      go_wp2_with fail
      refine (HB2.out _).mono ?_
      rintro x w1 ⟨rfl, rfl⟩
      clear HF0 HB1 HB2
      go_wp2
      go_loopw [7, 8] (fun v j wr => ∃ m n : Nat, m + 1 ≤ p ∧ j = .int .i64 ((m + 1 : Nat) : Int) ∧ v = .int .i64 ((n : Nat) : Int) ∧ Hid ((n : Int) = numOf (DS.take m)) ∧ Hid (∀ c ∈ DS.take m, isDig c = true) ∧ n < 10 ^ m ∧ wr = w.alloc Z24) (fun _ j _ => p - (intOf j).toNat)
      case atStart => exact ⟨0, 0, by omega, rfl, rfl, Lib.hid (by simp [Cal.numOf]), Lib.hid (by simp), by decide, rfl⟩
      case round =>
        obtain ⟨m, n, hm, rfl, rfl, HN, HD, hn, rfl⟩ := hrel
        by_cases hlt : m + 1 < p
        case pos =>
          have hp10 : 10 ^ m ≤ 10 ^ 2 := Nat.pow_le_pow_right (by decide) (by omega)
          have hn2 : n < 100 := by omega
          obtain ⟨i, hi⟩ : ∃ i, m + 1 = i := ⟨_, rfl⟩
          rw [hi] at hlt ⊢
          have his : i < s.size := by omega
          obtain ⟨c, hc⟩ : ∃ c : UInt8, s[i]'his = c := ⟨_, rfl⟩
          have hat : (((s[i]'his).toNat : Nat) : Int) = ((c.toNat : Nat) : Int) := by rw [hc]
          have hLc : DS[m]? = some c := by rw [HGD.out m (by omega), hi, HG.out i his, hc]
          have hsn := List.take_add_one (l := DS) (i := m)
          rw [hLc] at hsn
          have HSN := Lib.hid hsn
          have hcm := List.mem_of_getElem? hLc
          clear hsn hLc hc
          by_cases hdg : 48 ≤ c.toNat ∧ c.toNat ≤ 57
          case pos =>
            obtain ⟨d1, d2⟩ := hdg
            have q1 : decide (((c.toNat : Nat) : Int) < 48) = false := decide_eq_false (by omega)
            have q2 : decide (((c.toNat : Nat) : Int) > 57) = false := decide_eq_false (by omega)
            go_wp2
            refine ⟨⟨i, 10 * n + (c.toNat - 48), by omega, congrArg (Value.int IntKind.i64) (by omega), congrArg (Value.int IntKind.i64) (by omega), Lib.hid ?_, Lib.hid ?_, ?_, trivial⟩, ?_⟩
            · rw [← hi, HSN.out]
              show _ = Cal.numOf (DS.take m ++ [c])
              rw [Cal.numOf_snoc, ← HN.out]
              omega
            · rw [← hi, HSN.out]
              intro x hx
              rcases List.mem_append.1 hx with hx | hx
              · exact HD.out x hx
              · obtain rfl : x = c := by simpa using hx
                unfold isDig
                exact decide_eq_true (by omega)
            · rw [← hi, Nat.pow_succ]
              omega
            · simp only [intOf]
              omega
          case neg =>
            have HNO := Lib.hid (ns1 (l := L) fun k r h => hdg (by
              have f := (HHF.out k r h).2.2.2.2.2.2.2.1
              rw [HPP.out, HDS.out] at f
              have g := f c hcm
              unfold isDig at g
              have := of_decide_eq_true g
              omega))
            exact absurd (s21 (s32 HY.out)) HNO.out
        case neg =>
          have hmp : m + 1 = p := by omega
          have hp10 : 10 ^ m ≤ 10 ^ 3 := Nat.pow_le_pow_right (by decide) (by omega)
          have hn3 : n < 1000 := by omega
          have hDm : DS.take m = DS := List.take_of_length_le (by rw [HDL.out]; omega)
          have hN := HN.out
          rw [hDm] at hN
          have HNK := Lib.hid (show ∀ k r, HeadD L k r → k = n from fun k r h => by
            have f := (HHF.out k r h).2.2.2.2.2.2.2.2
            rw [HPP.out, HDS.out, ← hN] at f
            omega)
          clear HN HD hDm hN hn hp10
          rw [hmp]
          clear hmp hlt hm
          by_cases h191 : 191 < n
          case pos =>
            have HNO := Lib.hid (ns1 (l := L) fun k r h => by have := HNK.out k r h; have := h.2; omega)
            exact absurd (s21 (s32 HY.out)) HNO.out
          case neg =>
            have HDEC := Lib.hid (fun W => refDec_any 3 n W (by omega) (by decide))
            have hmq : decide ((191 : Int) < ((n : Nat) : Int)) = false := decide_eq_false (by omega)
            obtain ⟨DB, hDB⟩ : ∃ D, s.extract 1 p = D := ⟨_, rfl⟩
            have HDB := Lib.hid (show DB = bytes DS by rw [← hDB, HX.out, ← HDS.out, List.drop_take])
            have hsl : ∀ W, (Instr.slice 9 (.string s) (some (.int .i64 1)) (some (.int .i64 ((p : Nat) : Int))) none).run Tryz.prog W = .ok (.string DB) W := fun W => by
              rw [run_slice_string W 9 s .i64 .i64 _ _ Tryz.underlying9 (by omega) (by omega) (by omega), ← hDB, Int.toNat_natCast]; rfl
            obtain ⟨DN, hDN⟩ : ∃ D, bytes (Lib.decDigits n) = D := ⟨_, rfl⟩
            rw [hDN] at HDEC
            obtain ⟨q, hq⟩ : ∃ b, (DN.toList == DB.toList) = b := ⟨_, rfl⟩
            go_wp2_with fail
            go_region_held3 (fun _ => True)
              (first | trivial | assumption)
              (first | (go_at_call 11; refine (HDEC.out _).mono ?_; rintro e w' ⟨rfl, hz⟩))
            have hR1 := (rat_new w).below hz
            have hqq := eq_text DN DB
            rw [hq] at hqq
            cases q with
            | false =>
              have HNO := Lib.hid (ns1 (l := L) fun k r h => by
                obtain rfl := HNK.out k r h
                have f := (HHF.out k r h).2.2.2.2.2.2.1
                rw [HPP.out, HDS.out] at f
                have g : DN = DB := by rw [HDB.out, ← hDN, f]
                rw [decide_eq_true g] at hqq
                cases hqq)
              exact absurd (s21 (s32 HY.out)) HNO.out
            | true =>
              have hdd : Lib.decDigits n = DS := by
                have g : DN = DB := of_decide_eq_true hqq.symm
                rw [HDB.out, ← hDN] at g
                have := congrArg (fun x : ByteArray => x.data.toList) g
                simp only [bytes_list] at this
                exact this
              have HHEAD := Lib.hid (head_of (k := n) (p := p) (by have := HHB1.out; rw [List.drop_zero, pre_cons] at this; exact of_decide_eq_true this) hp2 HHB2.out (by omega) (by rw [hdd, HDS.out]))
              have ha3 := pre_len HHB2.out
              rw [List.length_drop, HLN.out] at ha3
              have ha3 : p + 3 ≤ s.size := by simp only [List.length_cons, List.length_nil] at ha3; omega
              have HR1 := Lib.hid hR1
              clear hz hqq hDN hDB hsl hdd hR1 HDEC HNK HDB hq HHF HHB1 HHB2 HDS HDL HGD HPP hmq hn3
              obtain ⟨a0, ha0⟩ : ∃ a, p + 3 = a := ⟨_, rfl⟩
              rw [ha0] at HHEAD
              have hpa : ((p : Nat) : Int) + 3 = ((a0 : Nat) : Int) := by omega
              obtain ⟨b3, hb3⟩ : ∃ b, Lib.hasPrefix (L.drop a0) [45, 32] = b := ⟨_, rfl⟩
              have HB3 := begins_hid HL.out hs ⟨#[45, 32]⟩ (by decide) (by decide) a0 (by omega) b3 hb3
              have HHB3 := Lib.hid hb3
              clear hb3
              have ha0s : a0 ≤ s.size := by omega
              obtain ⟨b, hbz⟩ : ∃ b, w'.heap.size = b := ⟨_, rfl⟩
              obtain ⟨G, hG⟩ : ∃ G : Int, ((n : Nat) : Int) % 8 = G := ⟨_, rfl⟩
              obtain ⟨F, hF⟩ : ∃ F : Int, ((n : Nat) : Int) / 8 = F := ⟨_, rfl⟩
              have HGG := Lib.hid hG
              have HFF := Lib.hid hF
              go_wp2_with fail
              refine (HB3.out _).mono ?_
              rintro x w8 ⟨rfl, hw8⟩
              go_upto_if 90 with fail
              rw [← hw8]
              have hE : GAt w w8 b (.int .i64 G) (.int .i64 F) (.bool false) (.int .i64 0) (.string ⟨#[]⟩) (.string ⟨#[]⟩) (.string ⟨#[]⟩) (.string ⟨#[]⟩) (.slice none 0 0) (.string ⟨#[]⟩) := by
                obtain ⟨hex, hfz, hBB, hz0⟩ := HR1.out
                have hal : Below w'.heap.size w' w8 := by rw [hw8]; exact (Below.refl _ _).alloc (Nat.le_refl _) _
                rw [← hbz]
                refine ⟨?_, ?_, ?_, ?_, ?_, ?_, ?_, ?_, ?_, ?_, fun i hi => ?_, fun o => ?_, fun o => ?_, hz0, ?_, hBB.trans (hal.mono hBB.size)⟩
                · rw [hw8]; simp [go_sem]
                · rw [hw8]; simp [go_sem]
                · rw [hw8]; simp [go_sem]
                · rw [hw8]; simp [go_sem]
                · rw [hw8]; simp [go_sem]
                · rw [hw8]; simp [go_sem]
                · rw [hw8]; simp [go_sem]
                · rw [hw8]; simp [go_sem]
                · rw [hw8]; simp [go_sem]
                · rw [hw8]; simp [go_sem]
                · obtain ⟨v, hv⟩ := hex i hi
                  exact ⟨v, ((bcell hal).1 _ _ hz0).trans hv⟩
                · exact ((bcell hal).2 _ _ hz0).trans (hfz o)
                · rw [hw8]; simp [go_sem]
                · rw [hw8]; simp
              clear hw8 HR1 hG hF HB3
              clear hbz
              have HE := Lib.hid hE
              clear hE
              go_cut [10] (fun s10 wc => ∃ (td : Bool) (ad : Int) (a1 : Nat), s10 = .int .i64 ((a1 : Nat) : Int) ∧ a1 ≤ s.size ∧ GAt w wc b (.int .i64 G) (.int .i64 F) (.bool td) (.int .i64 ad) (.string ⟨#[]⟩) (.string ⟨#[]⟩) (.string ⟨#[]⟩) (.string ⟨#[]⟩) (.slice none 0 0) (.string ⟨#[]⟩) ∧ Hid (DateD (L.drop a0) td ad (L.drop a1)))
              case first =>
                cases b3 with
                | true =>
                  have hle := pre_len HHB3.out
                  rw [List.length_drop, HLN.out] at hle
                  simp only [List.length_cons, List.length_nil] at hle
                  have hda : DateD (L.drop a0) false 0 (L.drop (a0 + 2)) := .inl ⟨HHB3.out, by rw [List.drop_drop], rfl, rfl⟩
                  have HDA := Lib.hid hda
                  clear hda
                  go_wp2
                  go_meet
                  exact ⟨false, 0, a0 + 2, congrArg (Value.int IntKind.i64) (by omega), by omega, HE.out, HDA⟩
                | false =>
                  obtain ⟨y, mo, d, hh, mi, sc, nn, z, t, err, hq⟩ := Cal.parsed_all (L.drop a0)
                  have HQ := Lib.hid hq
                  have HRP : Hid (∀ W, Calls Tryz.prog 12 #[.string (bytes (L.drop a0))] W fun e w' => e = .returned (.tuple #[.agg #[.int .i64 y, .int .i64 mo, .int .i64 d, .int .i64 hh, .int .i64 mi, .int .i64 sc, .int .i64 nn, .int .i64 z], .string (bytes t), .int .i64 err]) ∧ Below W.heap.size W w') :=
                    Lib.hid (fun W => (Cal.rparse_any (L.drop a0) W (by rw [List.length_drop]; have := HLN.out; omega)).mono fun e w' ha => rparse_is HQ.out ha)
                  clear hq
                  obtain ⟨RB, hRB⟩ : ∃ B, bytes (L.drop a0) = B := ⟨_, rfl⟩
                  rw [hRB] at HRP
                  have hsl2 : ∀ W, (Instr.slice 9 (.string s) (some (.int .i64 ((a0 : Nat) : Int))) none none).run Tryz.prog W = .ok (.string RB) W := fun W => by
                    have h := run_slice_string_l W 9 s Tryz.underlying9 .i64 ((a0 : Nat) : Int) (by omega) (by omega)
                    rw [h, Int.toNat_natCast, HX.out, ← hRB, List.take_of_length_le (by rw [List.length_drop, HLN.out]; omega)]
                  clear hRB
                  obtain ⟨TB, hTB⟩ : ∃ B, bytes t = B := ⟨_, rfl⟩
                  rw [hTB] at HRP
                  have hTz : TB.size = t.length := by rw [← hTB, bytes_size]
                  have hcase : err = 3 ∨ (err = 0 ∧ t = []) ∨ (∃ c r, err = 0 ∧ t = c :: r ∧ c ≠ 32) ∨ ∃ r, err = 0 ∧ t = 32 :: r := by
                    rcases err_three HQ.out with h | h
                    · right
                      rcases t with _ | ⟨c, r⟩
                      · exact .inl ⟨h, rfl⟩
                      · by_cases hc : c = 32
                        · exact .inr (.inr ⟨r, h, by rw [hc]⟩)
                        · exact .inr (.inl ⟨c, r, h, rfl, hc⟩)
                    · exact .inl h
                  rcases hcase with rfl | ⟨rfl, rfl⟩ | ⟨c, r, rfl, rfl, hc⟩ | ⟨r, rfl, rfl⟩
                  · have HNO := Lib.hid (ns2 HHEAD.out (date_no HHB3.out HQ.out (.inl (by decide))))
                    exact absurd (s32 HY.out) HNO.out
                  · have HNO := Lib.hid (ns2 HHEAD.out (date_no HHB3.out HQ.out (.inr (by simp))))
                    exact absurd (s32 HY.out) HNO.out
                  · have HNO := Lib.hid (ns2 HHEAD.out (date_no HHB3.out HQ.out (.inr (by intro r' h; cases h; exact hc rfl))))
                    exact absurd (s32 HY.out) HNO.out
                  · have hpr := Cal.parsed_right HQ.out rfl
                    obtain ⟨hri, _, hP⟩ := hpr
                    have hsx := suffix_drop hP (by rw [HLN.out]; exact ha0s)
                    have hDA := date_yes HHB3.out HQ.out
                    rw [List.length_cons] at hTz
                    rw [List.length_cons, HLN.out] at hsx
                    obtain ⟨hs1, hs2⟩ := hsx
                    have hs3 : L.drop (s.size - TB.size + 1) = r := by rw [hTz, ← List.drop_drop, hs2]; rfl
                    rw [← hs3] at hDA
                    have HNN : Hid (∀ W, Calls Tryz.prog 13 #[.agg #[.int .i64 y, .int .i64 mo, .int .i64 d, .int .i64 hh, .int .i64 mi, .int .i64 sc, .int .i64 nn, .int .i64 z]] W fun e w' => e = .returned (.tuple #[.int .i64 (nanosI y mo d hh mi sc nn z), .int .i64 0]) ∧ Below W.heap.size W w') := Lib.hid fun W => Cal.rnanos_yes _ _ _ _ _ _ _ _ W hri
                    obtain ⟨AD, hAD⟩ : ∃ A, nanosI y mo d hh mi sc nn z = A := ⟨_, rfl⟩
                    rw [hAD] at HNN hDA
                    have HDA := Lib.hid hDA
                    have hpos : 0 < TB.size := by omega
                    have hTs : TB.size ≤ s.size := by omega
                    have hat : (((TB[0]'hpos).toNat : Nat) : Int) = 32 := by rw [byte0 hTB hpos]; rfl
                    have q1 : decide (((TB.size : Nat) : Int) < 1) = false := decide_eq_false (by omega)
                    clear hTz hTB hDA hAD hs3 hs2 hs1 hP hri
                    go_wp2_with fail
                    refine (HRP.out _).mono ?_
                    rintro x w9 ⟨rfl, hb9⟩
                    have h9 := HE.out.below hb9
                    have hz9 : b < w9.heap.size := h9.z
                    have H9 := Lib.hid h9
                    clear h9 hb9
                    go_upto_if 112 with fail
                    obtain ⟨w10, hw10⟩ : ∃ W, W = w9.alloc (.cells #[.int .i64 y, .int .i64 mo, .int .i64 d, .int .i64 hh, .int .i64 mi, .int .i64 sc, .int .i64 nn, .int .i64 z] 50) := ⟨_, rfl⟩
                    rw [← hw10]
                    have hal : Below w9.heap.size w9 w10 := by rw [hw10]; exact (Below.refl _ _).alloc (Nat.le_refl _) _
                    have h10 := H9.out.below hal
                    have dz : w9.heap.size < w10.heap.size := by rw [hw10]; simp
                    have d0 : w10.cell? ⟨w9.heap.size, 0, none⟩ = some (.int .i64 y) := by rw [hw10]; simp [go_sem]
                    have d1 : w10.cell? ⟨w9.heap.size, 1, none⟩ = some (.int .i64 mo) := by rw [hw10]; simp [go_sem]
                    have d2 : w10.cell? ⟨w9.heap.size, 2, none⟩ = some (.int .i64 d) := by rw [hw10]; simp [go_sem]
                    have d3 : w10.cell? ⟨w9.heap.size, 3, none⟩ = some (.int .i64 hh) := by rw [hw10]; simp [go_sem]
                    have d4 : w10.cell? ⟨w9.heap.size, 4, none⟩ = some (.int .i64 mi) := by rw [hw10]; simp [go_sem]
                    have d5 : w10.cell? ⟨w9.heap.size, 5, none⟩ = some (.int .i64 sc) := by rw [hw10]; simp [go_sem]
                    have d6 : w10.cell? ⟨w9.heap.size, 6, none⟩ = some (.int .i64 nn) := by rw [hw10]; simp [go_sem]
                    have d7 : w10.cell? ⟨w9.heap.size, 7, none⟩ = some (.int .i64 z) := by rw [hw10]; simp [go_sem]
                    clear hw10 hal
                    have k2 := h10.k2
                    have hf1 := h10.f1
                    have H10 := Lib.hid h10
                    clear h10
                    go_upto_region 24 with fail
                    obtain ⟨w11, hw11⟩ : ∃ W, W = w10.setCell ⟨b, 2, none⟩ (.bool true) := ⟨_, rfl⟩
                    rw [← hw11]
                    have h11 := H10.out.set2 (.bool true)
                    rw [← hw11] at h11
                    have hnb : w9.heap.size ≠ b := by omega
                    have hdd : ∀ (k : Nat) (v : Value), w10.cell? ⟨w9.heap.size, k, none⟩ = some v → w11.cell? ⟨w9.heap.size, k, none⟩ = some v := fun k v h => by rw [hw11]; exact (World.cell?_setCell_other _ _ _ _ (fun h' => hnb (by simp only [Addr.mk.injEq] at h'; omega))).trans h
                    replace d0 := hdd _ _ d0
                    replace d1 := hdd _ _ d1
                    replace d2 := hdd _ _ d2
                    replace d3 := hdd _ _ d3
                    replace d4 := hdd _ _ d4
                    replace d5 := hdd _ _ d5
                    replace d6 := hdd _ _ d6
                    replace d7 := hdd _ _ d7
                    have H11 := Lib.hid h11
                    clear hdd hw11 h11 k2 hf1 H10 dz hnb
                    go_wp2_with fail
                    refine (HNN.out _).mono ?_
                    rintro x w12 ⟨rfl, hb12⟩
                    have h12 := H11.out.below hb12
                    have k3 := h12.k3
                    have hf1 := h12.f1
                    have H12 := Lib.hid h12
                    clear h12 hb12 d0 d1 d2 d3 d4 d5 d6 d7 H11
                    go_wp2
                    go_meet
                    exact ⟨true, AD, s.size - TB.size + 1, congrArg (Value.int IntKind.i64) (by omega), by omega, H12.out.set3 _, HDA⟩
              case rest =>
                obtain ⟨td, ad, a1, rfl, ha1, hE1, HDT⟩ := hcut
                have HE1 := Lib.hid hE1
                clear hE1 HE HHB3
                go_wp2
                obtain ⟨i9, hi9, hz9a, hz9b, hz9c⟩ := info9_of
                have HI9 := Lib.hid hi9
                have HI9a := Lib.hid hz9a
                have HI9b := Lib.hid hz9b
                have HI9c := Lib.hid hz9c
                clear hi9 hz9a hz9b hz9c
                go_loopw [10, 15] (fun s10 s15 wr => ∃ (ws : List (List UInt8)) (k : Nat), ws.length ≤ 4 ∧ s10 = .int .i64 ((k : Nat) : Int) ∧ k ≤ s.size ∧ wr.ownsRow (b + 1) 9 1 s15 ws.length (tcells ws) ∧ GAt w wr b (.int .i64 G) (.int .i64 F) (.bool td) (.int .i64 ad) (.string ⟨#[]⟩) (.string ⟨#[]⟩) (.string ⟨#[]⟩) (.string ⟨#[]⟩) (.slice none 0 0) (.string ⟨#[]⟩) ∧ Hid (wordsN 4 (L.drop a1) = (wordsN (4 - ws.length) (L.drop k)).map fun z => (ws ++ z.1, z.2))) (fun s10 _ _ => s.size + 1 - (intOf s10).toNat)
                case atStart => exact ⟨[], a1, by decide, rfl, ha1, World.ownsRow_nil _ _ _ _, HE1.out, Lib.hid (by simp)⟩
                case round =>
                  obtain ⟨ws, k, hw4, rfl, hk, hown, hE, HW⟩ := hrel
                  obtain ⟨la, lc, hlv⟩ := row_shape hown
                  subst hlv
                  by_cases h4 : ws.length < 4
                  case pos =>
                    obtain ⟨q, hq⟩ : ∃ q, L.drop k = q := ⟨_, rfl⟩
                    have hql : q.length = s.size - k := by rw [← hq, List.length_drop, HLN.out]
                    obtain ⟨m4, hm⟩ : ∃ m, 4 - ws.length = m + 1 := ⟨3 - ws.length, by omega⟩
                    have HF1 := Lib.hid (fun W => HF.out k 32 32 W)
                    have hfl := findL_one L k 32
                    rw [hq] at hfl
                    have qlen : decide (((ws.length : Nat) : Int) < 4) = true := decide_eq_true (by omega)
                    by_cases hA : atB q 32 < q.length ∧ atB q 32 ≠ 0
                    case neg =>
                      have hn : (toldL (q, true)).2.2 = false := told_no (by
                        by_cases h1 : atB q 32 < q.length
                        · exact .inr (Decidable.byContradiction fun h => hA ⟨h1, h⟩)
                        · exact .inl h1)
                      have HNO := Lib.hid (ns3 HHEAD.out HDT.out (by rw [HW.out, hq, hm, words_no hn]; rfl))
                      exact absurd HY.out HNO.out
                    case pos =>
                      obtain ⟨hA1, hA0⟩ := hA
                      obtain ⟨i, hi⟩ : ∃ i, k + atB q 32 = i := ⟨_, rfl⟩
                      rw [if_pos hA1, hi] at hfl
                      rw [hfl] at HF1
                      have hki : k < i := by omega
                      have his : i < s.size := by omega
                      have qi : decide (((i : Nat) : Int) ≤ ((k : Nat) : Int)) = false := decide_eq_false (by omega)
                      have hty := told_yes hA1 hA0
                      have hdr : q.drop (atB q 32 + 1) = L.drop (i + 1) := by rw [← hq, List.drop_drop]; congr 1; rw [hq]; omega
                      obtain ⟨WB, hWB⟩ : ∃ B, s.extract k i = B := ⟨_, rfl⟩
                      have hslw : ∀ W, (Instr.slice 9 (.string s) (some (.int .i64 ((k : Nat) : Int))) (some (.int .i64 ((i : Nat) : Int))) none).run Tryz.prog W = .ok (.string WB) W := fun W => by
                        rw [run_slice_string W 9 s .i64 .i64 _ _ Tryz.underlying9 (by omega) (by omega) (by omega), ← hWB, Int.toNat_natCast, Int.toNat_natCast]
                      have hWB2 : WB = bytes (q.take (atB q 32)) := by rw [← hWB, HX.out, hq, show i - k = atB q 32 by omega]
                      obtain ⟨qe, hqe⟩ : ∃ v, (WB.toList == (⟨#[45]⟩ : ByteArray).toList) = v := ⟨_, rfl⟩
                      have hqq := eq_text WB ⟨#[45]⟩
                      rw [hqe] at hqq
                      rw [show (⟨#[45]⟩ : ByteArray).toList = [45] from Lib.toList_data _] at hqe
                      obtain ⟨X, hX⟩ : ∃ X, (if q.take (atB q 32) = [45] then [] else q.take (atB q 32)) = X := ⟨_, rfl⟩
                      have HNEW : Hid (wordsN 4 (L.drop a1) = (wordsN (4 - (ws ++ [X]).length) (L.drop (i + 1))).map fun z => ((ws ++ [X]) ++ z.1, z.2)) := Lib.hid (by
                        rw [HW.out, hq, hm, words_yes (by rw [hty, hX, hdr]), show 4 - (ws ++ [X]).length = m4 by simp; omega, Option.map_map]
                        congr 1
                        funext z
                        simp)
                      have HXV : Hid (if qe = true then bytes X = ⟨#[]⟩ else bytes X = WB) := Lib.hid (by
                        cases qe with
                        | true =>
                          have g : WB = ⟨#[45]⟩ := of_decide_eq_true hqq.symm
                          have g2 : q.take (atB q 32) = [45] := by
                            rw [hWB2] at g
                            exact congrArg (fun x : ByteArray => x.data.toList) g
                          rw [if_pos rfl, ← hX, if_pos g2]; rfl
                        | false =>
                          have g : ¬ WB = ⟨#[45]⟩ := of_decide_eq_false hqq.symm
                          have g2 : ¬ q.take (atB q 32) = [45] := fun h => g (by rw [hWB2, h]; rfl)
                          rw [if_neg (by decide), ← hX, if_neg g2, hWB2])
                      have HO := Lib.hid hown
                      have HE := Lib.hid hE
                      clear hqq hX hty hdr hWB hWB2 hA1 hA0 hfl hi hq hql hm hown hE
                      cases qe with
                      | true =>
                        have HXB : Hid (bytes X = ⟨#[]⟩) := Lib.hid (by have := HXV.out; rwa [if_pos rfl] at this)
                        clear HXV
                        go_wp2_with fail
                        refine (HF1.out _).mono ?_
                        rintro x w2 ⟨rfl, rfl⟩
                        have hb2 : Below w2.heap.size w2 (w2.alloc (.cells #[.string ⟨#[]⟩] 9)) := (Below.refl _ _).alloc (Nat.le_refl _) _
                        have HO2 := Lib.hid (kept_below HO.out hb2)
                        have HE2 := Lib.hid (HE.out.below hb2)
                        have HN := Lib.hid (cells_new w2 #[.string ⟨#[]⟩] 9)
                        have hz2 : b + 1 ≤ w2.heap.size := HE.out.z
                        clear hb2
                        go_wp2_with (at_builtin; refine wpList_append_own _ rfl _ _ 55 rfl (b + 1) 9 i9 (.string ⟨#[]⟩) 1 16 Tryz.underlying55 HI9.out HI9a.out HI9b.out HI9c.out rfl (by decide) (.slice la ws.length lc) ws.length _ rfl HO2.out ⟨w2.heap.size, 0, none⟩ 1 1 [.string ⟨#[]⟩] rfl rfl HN.out (by simp [Value.oneCell']) (by unfold maxLen; omega) (by omega) (by simp; omega) ?_; intro v1 w3 hown1 hgrow1 _; obtain ⟨aw1, cap1, rfl⟩ := slice_of hown1)
                        have hown2 : w3.ownsRow (b + 1) 9 1 (.slice aw1 (ws.length + 1) cap1) (ws ++ [X]).length (tcells (ws ++ [X])) := by
                          rw [tcells_push, HXB.out, List.length_append]; exact hown1
                        refine ⟨?_, ?_⟩
                        · exact ⟨ws ++ [X], i + 1, by simp; omega, congrArg (Value.int IntKind.i64) (by omega), by omega, hown2, HE2.out.grown hgrow1 (fun k hk => (HO2.out.lt k hk).1), HNEW⟩
                        · simp [intOf]; omega
                      | false =>
                        have HXB : Hid (bytes X = WB) := Lib.hid (by have := HXV.out; rwa [if_neg (by decide)] at this)
                        clear HXV
                        go_wp2_with fail
                        refine (HF1.out _).mono ?_
                        rintro x w2 ⟨rfl, rfl⟩
                        have hb2 : Below w2.heap.size w2 (w2.alloc (.cells #[.string WB] 9)) := (Below.refl _ _).alloc (Nat.le_refl _) _
                        have HO2 := Lib.hid (kept_below HO.out hb2)
                        have HE2 := Lib.hid (HE.out.below hb2)
                        have HN := Lib.hid (cells_new w2 #[.string WB] 9)
                        have hz2 : b + 1 ≤ w2.heap.size := HE.out.z
                        clear hb2
                        go_wp2_with (at_builtin; refine wpList_append_own _ rfl _ _ 55 rfl (b + 1) 9 i9 (.string ⟨#[]⟩) 1 16 Tryz.underlying55 HI9.out HI9a.out HI9b.out HI9c.out rfl (by decide) (.slice la ws.length lc) ws.length _ rfl HO2.out ⟨w2.heap.size, 0, none⟩ 1 1 [.string WB] rfl rfl HN.out (by simp [Value.oneCell']) (by unfold maxLen; omega) (by omega) (by simp; omega) ?_; intro v1 w3 hown1 hgrow1 _; obtain ⟨aw1, cap1, rfl⟩ := slice_of hown1)
                        have hown2 : w3.ownsRow (b + 1) 9 1 (.slice aw1 (ws.length + 1) cap1) (ws ++ [X]).length (tcells (ws ++ [X])) := by
                          rw [tcells_push, HXB.out, List.length_append]; exact hown1
                        refine ⟨?_, ?_⟩
                        · exact ⟨ws ++ [X], i + 1, by simp; omega, congrArg (Value.int IntKind.i64) (by omega), by omega, hown2, HE2.out.grown hgrow1 (fun k hk => (HO2.out.lt k hk).1), HNEW⟩
                        · simp [intOf]; omega
                  case neg =>
                    have h4e : ws.length = 4 := by omega
                    obtain ⟨x1, x2, x3, x4, hws⟩ : ∃ x1 x2 x3 x4, ws = [x1, x2, x3, x4] := by
                      match ws, h4e with
                      | [x1, x2, x3, x4], _ => exact ⟨x1, x2, x3, x4, rfl⟩
                    have hWD : wordsN 4 (L.drop a1) = some ([x1, x2, x3, x4], L.drop k) := by rw [HW.out, h4e, hws]; rfl
                    have HWD := Lib.hid hWD
                    rcases hown.2 with ⟨_, hn0⟩ | ⟨g, cap, cur, hv, hbg, hg, _⟩
                    · omega
                    · cases hv
                      have c0 : wr.cell? ⟨g, 0, none⟩ = some (.string (bytes x1)) := by rw [hown.cellAt _ (by omega), hws]; rfl
                      have c1 : wr.cell? ⟨g, 1, none⟩ = some (.string (bytes x2)) := by rw [hown.cellAt _ (by omega), hws]; rfl
                      have c2 : wr.cell? ⟨g, 2, none⟩ = some (.string (bytes x3)) := by rw [hown.cellAt _ (by omega), hws]; rfl
                      have c3 : wr.cell? ⟨g, 3, none⟩ = some (.string (bytes x4)) := by rw [hown.cellAt _ (by omega), hws]; rfl
                      have hgb : g ≠ b := by omega
                      have hbg2 : b ≠ g := by omega
                      have k4 := hE.k4
                      have k5 := hE.k5
                      have k6 := hE.k6
                      have k7 := hE.k7
                      have hf1 := hE.f1
                      have HE := Lib.hid hE
                      clear hE hown hWD hws HW hg hw4 h4
                      go_upto_region 40 with fail
                      obtain ⟨W7, hW7⟩ : ∃ W, W = ((((wr.setCell ⟨b, 4, none⟩ (.string (bytes x1))).setCell ⟨b, 5, none⟩ (.string (bytes x2))).setCell ⟨b, 6, none⟩ (.string (bytes x3))).setCell ⟨b, 7, none⟩ (.string (bytes x4))) := ⟨_, rfl⟩
                      rw [← hW7]
                      have h7 := (((HE.out.set4 (.string (bytes x1))).set5 (.string (bytes x2))).set6 (.string (bytes x3))).set7 (.string (bytes x4))
                      rw [← hW7] at h7
                      have H7 := Lib.hid h7
                      obtain ⟨b4, hb4⟩ : ∃ v, Lib.hasPrefix (L.drop k) [45] = v := ⟨_, rfl⟩
                      have HB4 := begins_hid HL.out hs ⟨#[45]⟩ (by decide) (by decide) k (by omega) b4 hb4
                      have HHB4 := Lib.hid hb4
                      clear k4 k5 k6 k7 hf1 c0 c1 c2 c3 hgb hbg2 hW7 h7 HE hb4
                      go_wp2_with fail
                      refine (HB4.out _).mono ?_
                      rintro x w8 ⟨rfl, rfl⟩
                      go_upto_if 168 with fail
                      go_cut [10] (fun s10 wc => ∃ (es : List Elm) (rows : List Row) (la : Option Addr) (lc k2 : Nat), s10 = .int .i64 ((k2 : Nat) : Int) ∧ k2 ≤ s.size ∧ GAt w wc b (.int .i64 G) (.int .i64 F) (.bool td) (.int .i64 ad) (.string (bytes x1)) (.string (bytes x2)) (.string (bytes x3)) (.string (bytes x4)) (.slice la es.length lc) (.string ⟨#[]⟩) ∧ RowsAt (b + 1) wc (.slice la es.length lc) es rows ∧ Hid (elementsD (L.drop k) = some (es, L.drop k2)))
                      case first =>
                        cases b4 with
                        | true =>
                          have hel : elementsD (L.drop k) = some ([], L.drop (k + 1)) := by
                            have h45 := HHB4.out
                            rw [pre_cons] at h45
                            unfold elementsD
                            rw [if_pos (of_decide_eq_true h45), List.tail_drop]
                          have hk1 := pre_len HHB4.out
                          rw [List.length_drop, HLN.out] at hk1
                          simp only [List.length_cons, List.length_nil] at hk1
                          have HEL := Lib.hid hel
                          clear hel
                          go_wp2
                          go_meet
                          exact ⟨[], [], none, 0, k + 1, congrArg (Value.int IntKind.i64) (by omega), by omega, H7.out, RowsAt.start _ _, HEL⟩
                        | false =>
                          obtain ⟨b5, hb5⟩ : ∃ v, Lib.hasPrefix (L.drop k) [91] = v := ⟨_, rfl⟩
                          have HB5 := begins_hid HL.out hs ⟨#[91]⟩ (by decide) (by decide) k (by omega) b5 hb5
                          have h45 : ¬ (L.drop k).head? = some 45 := of_decide_eq_false (by rw [← pre_cons]; exact HHB4.out)
                          cases b5 with
                          | false =>
                            have h91 : ¬ (L.drop k).head? = some 91 := of_decide_eq_false (by rw [← pre_cons]; exact hb5)
                            have HNO := Lib.hid (ns4 HHEAD.out HDT.out HWD.out (by unfold elementsD; rw [if_neg h45, if_neg h91]))
                            have h7 := H7.out
                            obtain ⟨v0, e0⟩ := h7.e 0 (by decide)
                            obtain ⟨v1, e1⟩ := h7.e 1 (by decide)
                            obtain ⟨v2, e2⟩ := h7.e 2 (by decide)
                            obtain ⟨v3, e3⟩ := h7.e 3 (by decide)
                            obtain ⟨v4, e4⟩ := h7.e 4 (by decide)
                            obtain ⟨v5, e5⟩ := h7.e 5 (by decide)
                            obtain ⟨v6, e6⟩ := h7.e 6 (by decide)
                            obtain ⟨v7, e7⟩ := h7.e 7 (by decide)
                            obtain ⟨v8, e8⟩ := h7.e 8 (by decide)
                            obtain ⟨v9, e9⟩ := h7.e 9 (by decide)
                            have hfz := h7.f0
                            have HBW := Lib.hid h7.b
                            clear h7 h45 h91 hb5
                            go_wp2_with fail
                            refine (HB5.out _).mono ?_
                            rintro x w9 ⟨rfl, rfl⟩
                            go_wp2
                            change bodyPost Tryz.prog Tryz.f5 (RefParseAns L w) Exit.ret _ _
                            refine bodyPost_ret (v := .tuple #[.agg #[.int .i64 0, .int .i64 0, .bool false, .int .i64 0, .string ⟨#[]⟩, .string ⟨#[]⟩, .string ⟨#[]⟩, .string ⟨#[]⟩, .slice none 0 0, .string ⟨#[]⟩], .int .i64 3]) (by simp [results, Tryz.results5, go_sem, e0, e1, e2, e3, e4, e5, e6, e7, e8, e9]) rfl (bad_no (nod4 HNO.out) ?_)
                            exact ((((((((((HBW.out.setCell (p := ⟨w.heap.size, 0, none⟩) (Nat.le_refl _) _).setCell (p := ⟨w.heap.size, 1, none⟩) (Nat.le_refl _) _).setCell (p := ⟨w.heap.size, 2, none⟩) (Nat.le_refl _) _).setCell (p := ⟨w.heap.size, 3, none⟩) (Nat.le_refl _) _).setCell (p := ⟨w.heap.size, 4, none⟩) (Nat.le_refl _) _).setCell (p := ⟨w.heap.size, 5, none⟩) (Nat.le_refl _) _).setCell (p := ⟨w.heap.size, 6, none⟩) (Nat.le_refl _) _).setCell (p := ⟨w.heap.size, 7, none⟩) (Nat.le_refl _) _).setCell (p := ⟨w.heap.size, 8, none⟩) (Nat.le_refl _) _).setCell (p := ⟨w.heap.size, 9, none⟩) (Nat.le_refl _) _)
                          | true =>
                            have h91 : (L.drop k).head? = some 91 := of_decide_eq_true (by rw [← pre_cons]; exact hb5)
                            have hED : elementsD (L.drop k) = elmsD ((L.drop k).length + 1) (L.drop k) := by unfold elementsD; rw [if_neg h45, if_pos h91]
                            obtain ⟨N0, hN0⟩ : ∃ N, (L.drop k).length + 1 = N := ⟨_, rfl⟩
                            rw [hN0] at hED
                            have HED := Lib.hid hED
                            have hN1 : s.size - k < N0 := by rw [List.length_drop, HLN.out] at hN0; omega
                            obtain ⟨i0, hi0, hy0, hy1, hy2⟩ := info52_of
                            have HI := Lib.hid hi0
                            have HI0 := Lib.hid hy0
                            have HI1 := Lib.hid hy1
                            have HI2 := Lib.hid hy2
                            have HHB5 := Lib.hid hb5
                            clear hi0 hy0 hy1 hy2 hED hN0 h91 h45 hb5
                            go_wp2_with fail
                            refine (HB5.out _).mono ?_
                            rintro x w9 ⟨rfl, rfl⟩
                            go_wp2
                            go_loopw [10, 19] (fun s10 s19 wr => ∃ (es : List Elm) (rows : List Row) (la : Option Addr) (lc j m : Nat) (bb : Bool), s10 = .int .i64 ((j : Nat) : Int) ∧ s19 = .bool bb ∧ j ≤ s.size ∧ es.length ≤ j ∧ s.size - j < m ∧ Hid (Lib.hasPrefix (L.drop j) [91] = bb) ∧ GAt w wr b (.int .i64 G) (.int .i64 F) (.bool td) (.int .i64 ad) (.string (bytes x1)) (.string (bytes x2)) (.string (bytes x3)) (.string (bytes x4)) (.slice la es.length lc) (.string ⟨#[]⟩) ∧ RowsAt (b + 1) wr (.slice la es.length lc) es rows ∧ Hid (elmsD N0 (L.drop k) = (elmsD m (L.drop j)).map fun z => (es ++ z.1, z.2))) (fun s10 _ _ => s.size + 1 - (intOf s10).toNat)
                            case atStart => exact ⟨[], [], none, 0, k, N0, true, rfl, rfl, hk, by simp, hN1, HHB5, H7.out, RowsAt.start _ _, Lib.hid (by simp)⟩
                            case round =>
                              obtain ⟨es, rows, la, lc, j, m0, bb, rfl, rfl, hj, hej, hm, HBB, hE, hR, HPR⟩ := hrel
                              obtain ⟨m, rfl⟩ : ∃ m, m0 = m + 1 := ⟨m0 - 1, by omega⟩
                              cases bb with
                              | false =>
                                have h91 : (L.drop j).head? ≠ some 91 := of_decide_eq_false (by rw [← pre_cons]; exact HBB.out)
                                have hel : elementsD (L.drop k) = some (es, L.drop j) := by rw [HED.out, HPR.out, elmsD_stop h91]; simp
                                have HEL := Lib.hid hel
                                have HE := Lib.hid hE
                                have HR := Lib.hid hR
                                clear h91 hel hE hR
                                go_wp2
                                go_meet
                                exact ⟨es, rows, la, lc, j, rfl, hj, HE.out, HR.out, HEL⟩
                              | true =>
                                have h91 : (L.drop j).head? = some 91 := of_decide_eq_true (by rw [← pre_cons]; exact HBB.out)
                                have hjl := pre_len HBB.out
                                rw [List.length_drop, HLN.out] at hjl
                                simp only [List.length_cons, List.length_nil] at hjl
                                obtain ⟨j1, hj1⟩ : ∃ j1, j + 1 = j1 := ⟨_, rfl⟩
                                have hpj : ((j : Nat) : Int) + 1 = ((j1 : Nat) : Int) := by omega
                                have hEL := fun W => elem_any s j1 W (by omega) (by omega)
                                rw [HL.out] at hEL
                                have htl : (L.drop j).tail = L.drop j1 := by rw [List.tail_drop, hj1]
                                cases hx : elemD (L.drop j1) with
                                | none =>
                                  have HNO := Lib.hid (ns4 HHEAD.out HDT.out HWD.out (by rw [HED.out, HPR.out, elmsD_no h91 (by rw [htl, hx])]; rfl))
                                  have HEL : Hid (∀ W, Calls Tryz.prog 14 #[.string s, .int .i64 ((j1 : Nat) : Int)] W fun e w' => e = .returned (.tuple #[.agg #[.string ⟨#[]⟩, .slice none 0 0], .int .i64 (-1)]) ∧ Below W.heap.size W w') := Lib.hid fun W => (hEL W).mono fun e w' h => by
                                    unfold ElemDAns at h; rw [hx] at h; exact h
                                  have HE := Lib.hid hE
                                  clear hEL hx h91 hjl htl hE hR HPR hj1
                                  go_wp2_with fail
                                  refine (HEL.out _).mono ?_
                                  rintro x w9 ⟨rfl, hb9⟩
                                  have h9 := HE.out.below hb9
                                  have hz9 : b < w9.heap.size := h9.z
                                  have H9 := Lib.hid h9
                                  clear h9 hb9
                                  go_upto_if 186 with fail
                                  obtain ⟨w10, hw10⟩ : ∃ W, W = w9.alloc (.cells #[.string ⟨#[]⟩, .slice none 0 0] 58) := ⟨_, rfl⟩
                                  rw [← hw10]
                                  have hal : Below w9.heap.size w9 w10 := by rw [hw10]; exact (Below.refl _ _).alloc (Nat.le_refl _) _
                                  have h10 := H9.out.below hal
                                  clear hw10 hal
                                  obtain ⟨v0, e0⟩ := h10.e 0 (by decide)
                                  obtain ⟨v1, e1⟩ := h10.e 1 (by decide)
                                  obtain ⟨v2, e2⟩ := h10.e 2 (by decide)
                                  obtain ⟨v3, e3⟩ := h10.e 3 (by decide)
                                  obtain ⟨v4, e4⟩ := h10.e 4 (by decide)
                                  obtain ⟨v5, e5⟩ := h10.e 5 (by decide)
                                  obtain ⟨v6, e6⟩ := h10.e 6 (by decide)
                                  obtain ⟨v7, e7⟩ := h10.e 7 (by decide)
                                  obtain ⟨v8, e8⟩ := h10.e 8 (by decide)
                                  obtain ⟨v9, e9⟩ := h10.e 9 (by decide)
                                  have hfz := h10.f0
                                  have HBW := Lib.hid h10.b
                                  clear h10
                                  go_wp2
                                  change bodyPost Tryz.prog Tryz.f5 (RefParseAns L w) Exit.ret _ _
                                  refine bodyPost_ret (v := .tuple #[.agg #[.int .i64 0, .int .i64 0, .bool false, .int .i64 0, .string ⟨#[]⟩, .string ⟨#[]⟩, .string ⟨#[]⟩, .string ⟨#[]⟩, .slice none 0 0, .string ⟨#[]⟩], .int .i64 3]) (by simp [results, Tryz.results5, go_sem, e0, e1, e2, e3, e4, e5, e6, e7, e8, e9]) rfl (bad_no (nod4 HNO.out) ?_)
                                  exact ((((((((((HBW.out.setCell (p := ⟨w.heap.size, 0, none⟩) (Nat.le_refl _) _).setCell (p := ⟨w.heap.size, 1, none⟩) (Nat.le_refl _) _).setCell (p := ⟨w.heap.size, 2, none⟩) (Nat.le_refl _) _).setCell (p := ⟨w.heap.size, 3, none⟩) (Nat.le_refl _) _).setCell (p := ⟨w.heap.size, 4, none⟩) (Nat.le_refl _) _).setCell (p := ⟨w.heap.size, 5, none⟩) (Nat.le_refl _) _).setCell (p := ⟨w.heap.size, 6, none⟩) (Nat.le_refl _) _).setCell (p := ⟨w.heap.size, 7, none⟩) (Nat.le_refl _) _).setCell (p := ⟨w.heap.size, 8, none⟩) (Nat.le_refl _) _).setCell (p := ⟨w.heap.size, 9, none⟩) (Nat.le_refl _) _)
                                | some et =>
                                  obtain ⟨e, t⟩ := et
                                  obtain ⟨ha1, ha2, ha3'⟩ := elemD_end hx
                                  have hsx := suffix_drop ⟨ha1, ha3'⟩ (by rw [HLN.out]; omega)
                                  rw [HLN.out] at hsx
                                  obtain ⟨hs1, hs2⟩ := hsx
                                  have hal := List.length_pos_iff.2 ha2
                                  have hat := congrArg List.length ha3'
                                  rw [List.length_drop, HLN.out, List.length_append] at hat
                                  obtain ⟨j2, hj2⟩ : ∃ j2, s.size - t.length = j2 := ⟨_, rfl⟩
                                  have hj2a : j1 < j2 := by omega
                                  have hj2b : j2 ≤ s.size := by omega
                                  rw [hj2] at hs2
                                  have HPR2 : Hid (elmsD N0 (L.drop k) = (elmsD m (L.drop j2)).map fun z => ((es ++ [e]) ++ z.1, z.2)) := Lib.hid (by
                                    rw [HPR.out, elmsD_yes h91 (by rw [htl, hx]), hs2, Option.map_map]
                                    congr 1
                                    funext z
                                    simp)
                                  have HEL : Hid (∀ W, Calls Tryz.prog 14 #[.string s, .int .i64 ((j1 : Nat) : Int)] W fun x w' => ∃ pa pc, x = .returned (.tuple #[.agg #[.string e.1, .slice pa e.2.length pc], .int .i64 ((j2 : Nat) : Int)]) ∧ w'.ownsRow (W.heap.size + 2) 74 2 (.slice pa e.2.length pc) e.2.length (pcells e.2) ∧ Below W.heap.size W w') := Lib.hid fun W => (hEL W).mono fun x w' h => by
                                    unfold ElemDAns at h
                                    rw [hx] at h
                                    obtain ⟨⟨pa, pc, h1, h2⟩, h3⟩ := h
                                    rw [HLN.out, hj2] at h1
                                    exact ⟨pa, pc, h1, h2, h3⟩
                                  obtain ⟨b6, hb6⟩ : ∃ v, Lib.hasPrefix (L.drop j2) [91] = v := ⟨_, rfl⟩
                                  have HB6 := begins_hid HL.out hs ⟨#[91]⟩ (by decide) (by decide) j2 (by omega) b6 hb6
                                  have HHB6 := Lib.hid hb6
                                  have qj : decide (((j2 : Nat) : Int) < 0) = false := decide_eq_false (by omega)
                                  have HE := Lib.hid hE
                                  have HR := Lib.hid hR
                                  clear hEL hx h91 hjl htl hE hR HPR hj1 ha2 ha3' hs1 hs2 hal hat hj2 hb6
                                  go_wp2_with fail
                                  refine (HEL.out _).mono ?_
                                  rintro x w9 ⟨pa, pc, rfl, hpo, hb9⟩
                                  have hsz := HE.out.z
                                  have hz9 : b < w9.heap.size := Nat.lt_of_lt_of_le hsz hb9.size
                                  have H9 := Lib.hid (HE.out.below hb9)
                                  have R9 := Lib.hid (HR.out.below hb9)
                                  have P9 := Lib.hid (row_mono hpo (show b + 1 ≤ wr.heap.size + 2 by omega))
                                  clear hpo hb9 hsz
                                  go_upto_if 186 with fail
                                  obtain ⟨w10, hw10⟩ : ∃ W, W = w9.alloc (.cells #[.string e.1, .slice pa e.2.length pc] 58) := ⟨_, rfl⟩
                                  rw [← hw10]
                                  have hal : Below w9.heap.size w9 w10 := by rw [hw10]; exact (Below.refl _ _).alloc (Nat.le_refl _) _
                                  have x0 : w10.cell? ⟨w9.heap.size, 0, none⟩ = some (.string e.1) := by rw [hw10]; simp [go_sem]
                                  have y0 : w10.cell? ⟨w9.heap.size, 1, none⟩ = some (.slice pa e.2.length pc) := by rw [hw10]; simp [go_sem]
                                  have h10 := H9.out.below hal
                                  have hr10 := R9.out.below hal
                                  have hp10 := kept_below P9.out hal
                                  have hbn : Below w10.heap.size w10 (w10.alloc (.cells #[.string e.1, .slice pa e.2.length pc] 58)) := (Below.refl _ _).alloc (Nat.le_refl _) _
                                  have H11 := Lib.hid (h10.below hbn)
                                  have R11 := Lib.hid (hr10.below hbn)
                                  have P11 := Lib.hid (kept_below hp10 hbn)
                                  have HN := Lib.hid (cells_new w10 #[.string e.1, .slice pa e.2.length pc] 58)
                                  have k8 := h10.k8
                                  have hz10 : b + 1 ≤ w10.heap.size := h10.z
                                  clear hw10 hal h10 hr10 hp10 hbn H9 R9 P9 HE HR
                                  go_wp2_with (at_builtin; refine wpList_append_own _ rfl _ _ 27 rfl (b + 1) 58 i0 (.agg #[.string ⟨#[]⟩, .slice none 0 0]) 2 40 Tryz.underlying27 HI.out HI0.out HI1.out HI2.out rfl (by decide) (.slice la es.length lc) es.length _ rfl R11.out.own ⟨w10.heap.size, 0, none⟩ 1 1 [.string e.1, .slice pa e.2.length pc] rfl rfl HN.out (by simp [Value.oneCell']) (by unfold maxLen; omega) (by omega) (by simp; omega) ?_; intro v1 w12 hown1 hgrow1 hiff; clear hiff; obtain ⟨aw1, cap1, rfl⟩ := slice_of hown1; have H12 := Lib.hid (H11.out.grown hgrow1 (fun k hk => (R11.out.own.lt k hk).1)); have R12 := Lib.hid (R11.out.push P11.out hgrow1 hown1); have k8b := H12.out.k8; have hf1b := H12.out.f1; clear hown1 hgrow1 k8 x0 y0)
                                  have h13 := H12.out.set8 (.slice aw1 (es.length + 1) cap1)
                                  have r13 := R12.out.set ⟨b, 8, none⟩ (.slice aw1 (es.length + 1) cap1) (Nat.lt_succ_self b)
                                  obtain ⟨w13, hw13⟩ : ∃ W, W = w12.setCell ⟨b, 8, none⟩ (.slice aw1 (es.length + 1) cap1) := ⟨_, rfl⟩
                                  rw [← hw13] at h13 r13 ⊢
                                  have H13 := Lib.hid h13
                                  have R13 := Lib.hid r13
                                  clear hw13 k8b hf1b h13 r13 H12 R12 H11 R11 P11
                                  refine (HB6.out _).mono ?_
                                  rintro x w14 ⟨rfl, rfl⟩
                                  go_wp2
                                  refine ⟨?_, ?_⟩
                                  · refine ⟨es ++ [e], rows ++ [(e.1, .slice pa e.2.length pc)], aw1, cap1, j2, m, b6, rfl, rfl, hj2b, by rw [List.length_append]; simp only [List.length_cons, List.length_nil]; omega, by omega, HHB6, ?_, ?_, HPR2⟩
                                    · rw [List.length_append]; exact H13.out
                                    · rw [List.length_append]; exact R13.out
                                  · simp [intOf]; omega
                      case rest =>
                        obtain ⟨es, rows, la, lc2, k2, rfl, hk2, hE2, hR2, HEL⟩ := hcut
                        exact absurd ⟨_, _, _, _, _, _, _, _, _, HHEAD.out, HDT.out, HWD.out, HEL.out⟩ HN.out
end Go.Proofs.YtmmghppjhmdikaaGreatDoor
