/- The elements' piece of the document's own Parse, of a text whose elements are there: they lie as they are told, whatever stands in the other slots. Conditions: the size. -/
import Derived.Test.YtmmghppjhmdikaaGreatDoorAF26
namespace Go.Proofs.YtmmghppjhmdikaaGreatDoor
open Go.ChangeShapes Go.WideShapes Go.ChangeAt Go.RowKit

/-- The first branch on a slot in a piece of code. -/
def condAt (n : Nat) : Code → Option Code
  | .seq a b => match condAt n a with
    | some c => some c
    | none => condAt n b
  | .block _ c => condAt n c
  | .loop c => condAt n c
  | .cond (.tmp m) a b => if m = n then some (.cond (.tmp m) a b) else match condAt n a with
    | some c => some c
    | none => condAt n b
  | _ => none
noncomputable def elemsCode : Code := ((Tryz.f5.body.bind (condAt 168)).getD .skip)
set_option maxHeartbeats 16000000 in
set_option maxRecDepth 1000000 in
theorem elems_walk {s : ByteArray} {w w8 : World} {L : List UInt8} (hL : s.data.toList = L) (hs : s.size ≤ 16777216) {b k : Nat} (hk : k ≤ s.size) {G F ad : Int} {td : Bool} {x1 x2 x3 x4 : List UInt8} {b4 : Bool} (hb4 : Lib.hasPrefix (L.drop k) [45] = b4)
    (h7 : GAt w w8 b (.int .i64 G) (.int .i64 F) (.bool td) (.int .i64 ad) (.string (bytes x1)) (.string (bytes x2)) (.string (bytes x3)) (.string (bytes x4)) (.slice none 0 0) (.string ⟨#[]⟩)) (hels : elementsD (L.drop k) = none → False)
    {K : Act → World → Prop} {Q : Exit → Act → World → Prop} {t1 t3 t4 t5 t6 t7 t8 t11 t12 t13 t14 t15 t16 t17 t19 t20 t21 t22 t23 t24 t25 t26 t27 t28 t29 t30 t31 t32 t33 t34 t35 t36 t37 t38 t39 t40 t41 t42 t43 t44 t45 t46 t47 t48 t49 t50 t51 t52 t53 t54 t55 t56 t57 t58 t59 t60 t61 t62 t63 t64 t65 t66 t67 t68 t69 t70 t71 t72 t73 t74 t75 t76 t77 t78 t79 t80 t81 t82 t83 t84 t85 t86 t87 t88 t89 t90 t91 t92 t93 t94 t95 t96 t97 t98 t99 t100 t101 t102 t103 t104 t105 t106 t107 t108 t109 t110 t111 t112 t113 t114 t115 t116 t117 t118 t119 t120 t121 t122 t123 t124 t125 t126 t127 t128 t129 t130 t131 t132 t133 t134 t135 t136 t137 t138 t139 t140 t141 t142 t143 t144 t145 t146 t147 t148 t149 t150 t151 t152 t153 t154 t155 t156 t157 t158 t159 t160 t161 t162 t163 t164 t165 t166 t167 t169 t170 t171 t172 t173 t174 t175 t176 t177 t178 t179 t180 t181 t182 t183 t184 t185 t186 t187 t188 t189 t190 t191 t192 t193 t194 t195 t196 t197 t198 t199 t200 t201 t202 t203 t204 t205 t206 t207 t208 t209 t210 t211 t212 t213 t214 t215 t216 t217 t218 t219 t220 t221 t222 t223 t224 t225 t226 t227 t228 : Value}
    (hK : ∀ (wc : World) (es : List Elm) (rows : List Row) (la : Option Addr) (lc k2 : Nat) (u3 u19 u20 u21 u169 u170 u171 u172 u173 u174 u175 u176 u177 u178 u179 u180 u181 u182 u183 u184 u185 u186 u187 u188 u189 u190 u191 u192 u193 u194 u195 u196 u197 : Value), k2 ≤ s.size → GAt w wc b (.int .i64 G) (.int .i64 F) (.bool td) (.int .i64 ad) (.string (bytes x1)) (.string (bytes x2)) (.string (bytes x3)) (.string (bytes x4)) (.slice la es.length lc) (.string ⟨#[]⟩) → RowsAt (b + 1) wc (.slice la es.length lc) es rows → elementsD (L.drop k) = some (es, L.drop k2) → K ⟨#[.string s, t1, .pointer (some ⟨w.heap.size, 0, none⟩), u3, t4, t5, t6, t7, t8, .pointer (some ⟨b, 0, none⟩), .int .i64 ((k2 : Nat) : Int), t11, t12, t13, t14, t15, t16, t17, .bool b4, u19, u20, u21, t22, t23, t24, t25, t26, t27, t28, t29, t30, t31, t32, t33, t34, t35, t36, t37, t38, t39, t40, t41, t42, t43, t44, t45, t46, t47, t48, t49, t50, t51, t52, t53, t54, t55, t56, t57, t58, t59, t60, t61, t62, t63, t64, t65, t66, t67, t68, t69, t70, t71, t72, t73, t74, t75, t76, t77, t78, t79, t80, t81, t82, t83, t84, t85, t86, t87, t88, t89, t90, t91, t92, t93, t94, t95, t96, t97, t98, t99, t100, t101, t102, t103, t104, t105, t106, t107, t108, t109, t110, t111, t112, t113, t114, t115, t116, t117, t118, t119, t120, t121, t122, t123, t124, t125, t126, t127, t128, t129, t130, t131, t132, t133, t134, t135, t136, t137, t138, t139, t140, t141, t142, t143, t144, t145, t146, t147, t148, t149, t150, t151, t152, t153, t154, t155, t156, t157, t158, t159, t160, t161, t162, t163, t164, t165, t166, t167, .bool b4, u169, u170, u171, u172, u173, u174, u175, u176, u177, u178, u179, u180, u181, u182, u183, u184, u185, u186, u187, u188, u189, u190, u191, u192, u193, u194, u195, u196, u197, t198, t199, t200, t201, t202, t203, t204, t205, t206, t207, t208, t209, t210, t211, t212, t213, t214, t215, t216, t217, t218, t219, t220, t221, t222, t223, t224, t225, t226, t227, t228], []⟩ wc) :
    Code.wp Tryz.prog elemsCode (Exit.then K Q) ⟨#[.string s, t1, .pointer (some ⟨w.heap.size, 0, none⟩), t3, t4, t5, t6, t7, t8, .pointer (some ⟨b, 0, none⟩), .int .i64 ((k : Nat) : Int), t11, t12, t13, t14, t15, t16, t17, .bool b4, t19, t20, t21, t22, t23, t24, t25, t26, t27, t28, t29, t30, t31, t32, t33, t34, t35, t36, t37, t38, t39, t40, t41, t42, t43, t44, t45, t46, t47, t48, t49, t50, t51, t52, t53, t54, t55, t56, t57, t58, t59, t60, t61, t62, t63, t64, t65, t66, t67, t68, t69, t70, t71, t72, t73, t74, t75, t76, t77, t78, t79, t80, t81, t82, t83, t84, t85, t86, t87, t88, t89, t90, t91, t92, t93, t94, t95, t96, t97, t98, t99, t100, t101, t102, t103, t104, t105, t106, t107, t108, t109, t110, t111, t112, t113, t114, t115, t116, t117, t118, t119, t120, t121, t122, t123, t124, t125, t126, t127, t128, t129, t130, t131, t132, t133, t134, t135, t136, t137, t138, t139, t140, t141, t142, t143, t144, t145, t146, t147, t148, t149, t150, t151, t152, t153, t154, t155, t156, t157, t158, t159, t160, t161, t162, t163, t164, t165, t166, t167, .bool b4, t169, t170, t171, t172, t173, t174, t175, t176, t177, t178, t179, t180, t181, t182, t183, t184, t185, t186, t187, t188, t189, t190, t191, t192, t193, t194, t195, t196, t197, t198, t199, t200, t201, t202, t203, t204, t205, t206, t207, t208, t209, t210, t211, t212, t213, t214, t215, t216, t217, t218, t219, t220, t221, t222, t223, t224, t225, t226, t227, t228], []⟩ w8 := by
  have hln : L.length = s.size := by rw [← hL]; exact list_size s
  have HL := Lib.hid hL
  have HLN := Lib.hid hln
  have HHB4 := Lib.hid hb4
  have H7 := Lib.hid h7
  have HELS := Lib.hid hels
  have HK := Lib.hid hK
  clear hL hln hb4 h7 hels hK
  conv => arg 2; whnf
  cases b4 with
  | true =>
    obtain ⟨k1, hk1e⟩ : ∃ k1, k + 1 = k1 := ⟨_, rfl⟩
    have hpk1 : ((k : Nat) : Int) + 1 = ((k1 : Nat) : Int) := by omega
    have hel : elementsD (L.drop k) = some ([], L.drop (k + 1)) := by
      have h45 := HHB4.out
      rw [pre_cons] at h45
      unfold elementsD
      rw [if_pos (of_decide_eq_true h45), List.tail_drop]
    have hk1 := pre_len HHB4.out
    rw [List.length_drop, HLN.out] at hk1
    simp only [List.length_cons, List.length_nil] at hk1
    have HEL := Lib.hid hel
    clear hel
    rw [hk1e] at HEL
    have hk1s : k1 ≤ s.size := by omega
    clear hk1e hk1
    go_wp2
    exact HK.out w8 [] [] none 0 k1 _ _ _ _ _ _ _ _ _ _ _ _ _ _ _ _ _ _ _ _ _ _ _ _ _ _ _ _ _ _ _ _ _ hk1s H7.out (RowsAt.start _ _) HEL.out
  | false =>
    obtain ⟨b5, hb5⟩ : ∃ v, Lib.hasPrefix (L.drop k) [91] = v := ⟨_, rfl⟩
    have HB5 := begins_hid HL.out hs ⟨#[91]⟩ (by decide) (by decide) k (by omega) b5 hb5
    have h45 : ¬ (L.drop k).head? = some 45 := of_decide_eq_false (by rw [← pre_cons]; exact HHB4.out)
    cases b5 with
    | false =>
      have h91 : ¬ (L.drop k).head? = some 91 := of_decide_eq_false (by rw [← pre_cons]; exact hb5)
      exact (HELS.out (by unfold elementsD; rw [if_neg h45, if_neg h91])).elim
    | true =>
      have h91 : (L.drop k).head? = some 91 := of_decide_eq_true (by rw [← pre_cons]; exact hb5)
      have hED : elementsD (L.drop k) = elmsD ((L.drop k).length + 1) (L.drop k) := by unfold elementsD; rw [if_neg h45, if_pos h91]
      obtain ⟨N0, hN0⟩ : ∃ N, (L.drop k).length + 1 = N := ⟨_, rfl⟩
      rw [hN0] at hED
      have HED := Lib.hid hED
      have hN1 : s.size - k < N0 := by rw [List.length_drop, HLN.out] at hN0; omega
      obtain ⟨i0, hi0, hy0, hy1, hy2⟩ := info52_of
      have HI := Lib.hid hi0
      have HI0 := Lib.hid hy0
      have HI1 := Lib.hid hy1
      have HI2 := Lib.hid hy2
      have HHB5 := Lib.hid hb5
      clear hi0 hy0 hy1 hy2 hED hN0 h91 h45 hb5
      go_wp2_with fail
      refine (HB5.out _).mono ?_
      rintro x w9 ⟨rfl, rfl⟩
      go_wp2
      go_loopw [10, 19] (fun s10 s19 wr => ∃ (es : List Elm) (rows : List Row) (la : Option Addr) (lc j m : Nat) (bb : Bool), s10 = .int .i64 ((j : Nat) : Int) ∧ s19 = .bool bb ∧ j ≤ s.size ∧ es.length ≤ j ∧ s.size - j < m ∧ Hid (Lib.hasPrefix (L.drop j) [91] = bb) ∧ GAt w wr b (.int .i64 G) (.int .i64 F) (.bool td) (.int .i64 ad) (.string (bytes x1)) (.string (bytes x2)) (.string (bytes x3)) (.string (bytes x4)) (.slice la es.length lc) (.string ⟨#[]⟩) ∧ RowsAt (b + 1) wr (.slice la es.length lc) es rows ∧ Hid (elmsD N0 (L.drop k) = (elmsD m (L.drop j)).map fun z => (es ++ z.1, z.2))) (fun s10 _ _ => s.size + 1 - (intOf s10).toNat)
      case atStart => exact ⟨[], [], none, 0, k, N0, true, rfl, rfl, hk, by simp, hN1, HHB5, H7.out, RowsAt.start _ _, Lib.hid (by simp)⟩
      case round =>
        obtain ⟨es, rows, la, lc, j, m0, bb, rfl, rfl, hj, hej, hm, HBB, hE, hR, HPR⟩ := hrel
        obtain ⟨m, rfl⟩ : ∃ m, m0 = m + 1 := ⟨m0 - 1, by omega⟩
        cases bb with
        | false =>
          have h91 : (L.drop j).head? ≠ some 91 := of_decide_eq_false (by rw [← pre_cons]; exact HBB.out)
          have hel : elementsD (L.drop k) = some (es, L.drop j) := by rw [HED.out, HPR.out, elmsD_stop h91]; simp
          have HEL := Lib.hid hel
          have HE := Lib.hid hE
          have HR := Lib.hid hR
          clear h91 hel hE hR
          go_wp2
          exact HK.out _ es rows la lc j _ _ _ _ _ _ _ _ _ _ _ _ _ _ _ _ _ _ _ _ _ _ _ _ _ _ _ _ _ _ _ _ _ hj HE.out HR.out HEL.out
        | true =>
          have h91 : (L.drop j).head? = some 91 := of_decide_eq_true (by rw [← pre_cons]; exact HBB.out)
          have hjl := pre_len HBB.out
          rw [List.length_drop, HLN.out] at hjl
          simp only [List.length_cons, List.length_nil] at hjl
          obtain ⟨j1, hj1⟩ : ∃ j1, j + 1 = j1 := ⟨_, rfl⟩
          have hpj : ((j : Nat) : Int) + 1 = ((j1 : Nat) : Int) := by omega
          have hEL := fun W => elem_any s j1 W (by omega) (by omega)
          rw [HL.out] at hEL
          have htl : (L.drop j).tail = L.drop j1 := by rw [List.tail_drop, hj1]
          cases hx : elemD (L.drop j1) with
          | none =>
            exact (HELS.out (by rw [HED.out, HPR.out, elmsD_no h91 (by rw [htl, hx])]; rfl)).elim
          | some et =>
            obtain ⟨e, t⟩ := et
            obtain ⟨ha1, ha2, ha3'⟩ := elemD_end hx
            have hsx := suffix_drop ⟨ha1, ha3'⟩ (by rw [HLN.out]; omega)
            rw [HLN.out] at hsx
            obtain ⟨hs1, hs2⟩ := hsx
            have hal := List.length_pos_iff.2 ha2
            have hat := congrArg List.length ha3'
            rw [List.length_drop, HLN.out, List.length_append] at hat
            obtain ⟨j2, hj2⟩ : ∃ j2, s.size - t.length = j2 := ⟨_, rfl⟩
            have hj2a : j1 < j2 := by omega
            have hj2b : j2 ≤ s.size := by omega
            rw [hj2] at hs2
            have HPR2 : Hid (elmsD N0 (L.drop k) = (elmsD m (L.drop j2)).map fun z => ((es ++ [e]) ++ z.1, z.2)) := Lib.hid (by
              rw [HPR.out, elmsD_yes h91 (by rw [htl, hx]), hs2, Option.map_map]
              congr 1
              funext z
              simp)
            have HEL : Hid (∀ W, Calls Tryz.prog 14 #[.string s, .int .i64 ((j1 : Nat) : Int)] W fun x w' => ∃ pa pc, x = .returned (.tuple #[.agg #[.string e.1, .slice pa e.2.length pc], .int .i64 ((j2 : Nat) : Int)]) ∧ w'.ownsRow (W.heap.size + 2) 74 2 (.slice pa e.2.length pc) e.2.length (pcells e.2) ∧ Below W.heap.size W w') := Lib.hid fun W => (hEL W).mono fun x w' h => by
              unfold ElemDAns at h
              rw [hx] at h
              obtain ⟨⟨pa, pc, h1, h2⟩, h3⟩ := h
              rw [HLN.out, hj2] at h1
              exact ⟨pa, pc, h1, h2, h3⟩
            obtain ⟨b6, hb6⟩ : ∃ v, Lib.hasPrefix (L.drop j2) [91] = v := ⟨_, rfl⟩
            have HB6 := begins_hid HL.out hs ⟨#[91]⟩ (by decide) (by decide) j2 (by omega) b6 hb6
            have HHB6 := Lib.hid hb6
            have qj : decide (((j2 : Nat) : Int) < 0) = false := decide_eq_false (by omega)
            have HE := Lib.hid hE
            have HR := Lib.hid hR
            clear hEL hx h91 hjl htl hE hR HPR hj1 ha2 ha3' hs1 hs2 hal hat hj2 hb6
            go_wp2_with fail
            refine (HEL.out _).mono ?_
            rintro x w9 ⟨pa, pc, rfl, hpo, hb9⟩
            have hsz := HE.out.z
            have hz9 : b < w9.heap.size := Nat.lt_of_lt_of_le hsz hb9.size
            have H9 := Lib.hid (HE.out.below hb9)
            have R9 := Lib.hid (HR.out.below hb9)
            have P9 := Lib.hid (row_mono hpo (show b + 1 ≤ wr.heap.size + 2 by omega))
            clear hpo hb9 hsz
            go_upto_if 186 with fail
            obtain ⟨w10, hw10⟩ : ∃ W, W = w9.alloc (.cells #[.string e.1, .slice pa e.2.length pc] 58) := ⟨_, rfl⟩
            rw [← hw10]
            have hal : Below w9.heap.size w9 w10 := by rw [hw10]; exact (Below.refl _ _).alloc (Nat.le_refl _) _
            have x0 : w10.cell? ⟨w9.heap.size, 0, none⟩ = some (.string e.1) := by rw [hw10]; simp [go_sem]
            have y0 : w10.cell? ⟨w9.heap.size, 1, none⟩ = some (.slice pa e.2.length pc) := by rw [hw10]; simp [go_sem]
            have h10 := H9.out.below hal
            have hr10 := R9.out.below hal
            have hp10 := kept_below P9.out hal
            have hbn : Below w10.heap.size w10 (w10.alloc (.cells #[.string e.1, .slice pa e.2.length pc] 58)) := (Below.refl _ _).alloc (Nat.le_refl _) _
            have H11 := Lib.hid (h10.below hbn)
            have R11 := Lib.hid (hr10.below hbn)
            have P11 := Lib.hid (kept_below hp10 hbn)
            have HN := Lib.hid (cells_new w10 #[.string e.1, .slice pa e.2.length pc] 58)
            have k8 := h10.k8
            have hz10 : b + 1 ≤ w10.heap.size := h10.z
            clear hw10 hal h10 hr10 hp10 hbn H9 R9 P9 HE HR
            go_wp2_with (at_builtin; refine wpList_append_own _ rfl _ _ 27 rfl (b + 1) 58 i0 (.agg #[.string ⟨#[]⟩, .slice none 0 0]) 2 40 Tryz.underlying27 HI.out HI0.out HI1.out HI2.out rfl (by decide) (.slice la es.length lc) es.length _ rfl R11.out.own ⟨w10.heap.size, 0, none⟩ 1 1 [.string e.1, .slice pa e.2.length pc] rfl rfl HN.out (by simp [Value.oneCell']) (by unfold maxLen; omega) (by omega) (by simp; omega) ?_; intro v1 w12 hown1 hgrow1 hiff; clear hiff; obtain ⟨aw1, cap1, rfl⟩ := slice_of hown1; have H12 := Lib.hid (H11.out.grown hgrow1 (fun k hk => (R11.out.own.lt k hk).1)); have R12 := Lib.hid (R11.out.push P11.out hgrow1 hown1); have k8b := H12.out.k8; have hf1b := H12.out.f1; clear hown1 hgrow1 k8 x0 y0)
            have h13 := H12.out.set8 (.slice aw1 (es.length + 1) cap1)
            have r13 := R12.out.set ⟨b, 8, none⟩ (.slice aw1 (es.length + 1) cap1) (Nat.lt_succ_self b)
            obtain ⟨w13, hw13⟩ : ∃ W, W = w12.setCell ⟨b, 8, none⟩ (.slice aw1 (es.length + 1) cap1) := ⟨_, rfl⟩
            rw [← hw13] at h13 r13 ⊢
            have H13 := Lib.hid h13
            have R13 := Lib.hid r13
            clear hw13 k8b hf1b h13 r13 H12 R12 H11 R11 P11
            refine (HB6.out _).mono ?_
            rintro x w14 ⟨rfl, rfl⟩
            go_wp2
            refine ⟨?_, ?_⟩
            · refine ⟨es ++ [e], rows ++ [(e.1, .slice pa e.2.length pc)], aw1, cap1, j2, m, b6, rfl, rfl, hj2b, by rw [List.length_append]; simp only [List.length_cons, List.length_nil]; omega, by omega, HHB6, ?_, ?_, HPR2⟩
              · rw [List.length_append]; exact H13.out
              · rw [List.length_append]; exact R13.out
            · simp [intOf]; omega
end Go.Proofs.YtmmghppjhmdikaaGreatDoor
