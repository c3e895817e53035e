/- The texts ParseAny, ParseExact, one behind the other. -/
import Derived.Test.YtmmghppjhmdikaaGreatDoorAF15
import Derived.Test.YtmmghppjhmdikaaGreatDoorAF16
import Derived.Test.YtmmghppjhmdikaaGreatDoorAF19
import Derived.Test.YtmmghppjhmdikaaGreatDoorAF17
import Derived.Test.YtmmghppjhmdikaaGreatDoorAF18
/- What sysl.Parse answers of every text: a right event, or none. Conditions: the tables stand; the size. -/
namespace Go.Proofs.YtmmghppjhmdikaaGreatDoor
open Go.ChangeShapes Go.WideShapes Go.ChangeAt Go.RowKit

theorem until_flag {sep r p r' : List UInt8} {f : Bool} (h : untilL sep (r, f) = (p, r', true)) : f = true := by
  have e := congrArg (fun x => x.2.2) h
  have e2 : (f && (Lib.cut r sep).2.2) = true := e
  cases f with
  | true => rfl
  | false => cases e2
theorem told_flag {r p r' : List UInt8} {f : Bool} (h : toldL (r, f) = (p, r', true)) : f = true := by
  have e := congrArg (fun x => x.2.2) h
  have e2 : ((untilL [32] (r, f)).2.2 && decide ((untilL [32] (r, f)).1 ≠ [])) = true := e
  cases f with
  | true => rfl
  | false => cases e2
/-- What is answered of a text that is one. -/
def FitAns (n : Nat) (w : World) (e : Ending) (w' : World) : Prop :=
  ∃ (gr fr at' : Int) (td : Bool) (h a p i tx : List UInt8) (es : List Elm), GoodAns gr fr td at' h a p i tx es w e w' ∧ rightE ⟨gr, fr, td, at', bytes h, bytes a, bytes p, bytes i, es, bytes tx⟩ = 0 ∧ (elmsT es).length ≤ 2 * n ∧ tx.length ≤ n
theorem parse_any (l : List UInt8) (w : World) (hS : Std w) (hm : Max w) (hP : Cal.Pow w) (hE : Errs w) (hl : l.length ≤ 16777216) :
    Calls Tryz.prog 16 #[.string (bytes l)] w fun e w' => BadAns w e w' ∨ FitAns l.length w e w' := by
  rcases h1 : untilL [60] (l, true) with ⟨ahead, r1, f1⟩
  rcases h2 : untilL [62] (r1, f1) with ⟨dec, r2, f2⟩
  rcases h3 : untilL [32] (r2, f2) with ⟨form, r3, f3⟩
  rcases k1 : toldL (r3, f3) with ⟨date, r4, f4⟩
  rcases k2 : toldL (r4, f4) with ⟨h, r5, f5⟩
  rcases k3 : toldL (r5, f5) with ⟨a, r6, f6⟩
  rcases k4 : toldL (r6, f6) with ⟨p, r7, f7⟩
  rcases k5 : toldL (r7, f7) with ⟨i, r8, f8⟩
  have l1 : r1.length ≤ l.length := by have := until_len [60] (l, true); rw [h1] at this; exact this
  have l2 : r2.length ≤ l.length := by have := until_len [62] (r1, f1); rw [h2] at this; exact Nat.le_trans this l1
  have l3 : r3.length ≤ l.length := by have := until_len [32] (r2, f2); rw [h3] at this; exact Nat.le_trans this l2
  have l4 : r4.length ≤ l.length := by have := told_len (r3, f3); rw [k1] at this; exact Nat.le_trans this l3
  have l5 : r5.length ≤ l.length := by have := told_len (r4, f4); rw [k2] at this; exact Nat.le_trans this l4
  have l6 : r6.length ≤ l.length := by have := told_len (r5, f5); rw [k3] at this; exact Nat.le_trans this l5
  have l7 : r7.length ≤ l.length := by have := told_len (r6, f6); rw [k4] at this; exact Nat.le_trans this l6
  have l8 : r8.length ≤ l.length := by have := told_len (r7, f7); rw [k5] at this; exact Nat.le_trans this l7
  have ldec : dec.length ≤ l.length := by have := untilp_len [62] (r1, f1); rw [h2] at this; exact Nat.le_trans this l1
  have ldate : date.length ≤ l.length := Nat.le_trans (toldp_len k1) l3
  by_cases hb : f8 = true ∧ ahead = [] ∧ form = [49]
  case neg => exact (parse_b0 l r1 r2 r3 r4 r5 r6 r7 r8 ahead dec form date h a p i f1 f2 f3 f4 f5 f6 f7 f8 w hm hl h1 h2 h3 k1 k2 k3 k4 k5 hb).mono fun e w' hx => .inl hx
  case pos =>
    obtain ⟨rfl, rfl, rfl⟩ := hb
    obtain rfl := told_flag k5
    obtain rfl := told_flag k4
    obtain rfl := told_flag k3
    obtain rfl := told_flag k2
    obtain rfl := told_flag k1
    obtain rfl := until_flag h3
    obtain rfl := until_flag h2
    have CO0 := fun W (hW : Below w.heap.size w W) => origin_any dec W (hP.below hW) (hE.below hW) (by omega)
    cases ho : originL dec with
    | none =>
      refine (parse_b1 l r1 r2 r3 r4 r5 r6 r7 r8 dec date h a p i w hS hm hl h1 h2 h3 k1 k2 k3 k4 k5 fun W hW => (CO0 W hW).mono fun e w' hx => ?_).mono fun e w' hx => .inl hx
      obtain ⟨he, hbl⟩ := hx
      rw [ho] at he
      exact ⟨he, hbl⟩
    | some fg =>
      obtain ⟨fr, gr⟩ := fg
      have CO : ∀ W, Below w.heap.size w W → Calls Tryz.prog 31 #[.string (bytes dec)] W fun e w' => e = .returned (.tuple #[.int .i64 fr, .int .i64 gr, .bool true]) ∧ Below W.heap.size W w' := fun W hW => (CO0 W hW).mono fun e w' hx => by
        obtain ⟨he, hbl⟩ := hx
        rw [ho] at he
        exact ⟨he, hbl⟩
      rcases moment_cases date (by omega) with ⟨td, at', hM⟩ | hM
      case inr => exact (parse_b2 l r1 r2 r3 r4 r5 r6 r7 r8 dec date h a p i fr gr w hS hm hl h1 h2 h3 k1 k2 k3 k4 k5 CO fun W hW => hM W (hS.below hW).1).mono fun e w' hx => .inl hx
      case inl =>
        have CM := fun W (hW : Below w.heap.size w W) => hM W (hS.below hW).1
        have CE0 := fun W (_ : Below w.heap.size w W) => elements_any r8 W (by omega)
        cases he : elementsL r8 with
        | none =>
          refine (parse_b3 l r1 r2 r3 r4 r5 r6 r7 r8 dec date h a p i fr gr at' td w hS hm hl h1 h2 h3 k1 k2 k3 k4 k5 CO CM fun W hW => (CE0 W hW).mono fun e w' hx => ?_).mono fun e w' hx => .inl hx
          unfold ElementsAns at hx
          rw [he] at hx
          exact hx
        | some er =>
          obtain ⟨es, r9⟩ := er
          have hsum := elements_sum he
          simp only at hsum
          have CE : ∀ W, Below w.heap.size w W → Calls Tryz.prog 33 #[.string (bytes r8)] W fun e w' => ∃ la lc, e = .returned (.tuple #[.slice la es.length lc, .string (bytes r9), .bool true]) ∧ (∀ V, Agree W.heap.size w' V → ElmsAt V (.slice la es.length lc) es) ∧ Below W.heap.size W w' := fun W hW => (CE0 W hW).mono fun e w' hx => by
            unfold ElementsAns at hx
            rw [he] at hx
            exact hx
          rcases hbh : behindL r9 with ⟨tx, fb⟩
          have ltx : tx.length ≤ r9.length := by have := behind_len r9; rw [hbh] at this; exact this
          have CB0 := fun W (_ : Below w.heap.size w W) => behind_any r9 W
          rw [hbh] at CB0
          cases fb with
          | false => exact (parse_b4 l r1 r2 r3 r4 r5 r6 r7 r8 r9 dec date h a p i tx fr gr at' td es w hS hm hl h1 h2 h3 k1 k2 k3 k4 k5 CO CM CE fun W hW => (CB0 W hW).mono fun e w' hx => ⟨hx.1, by rw [hx.2]; exact Below.refl _ _⟩).mono fun e w' hx => .inl hx
          | true =>
            have CB : ∀ W, Below w.heap.size w W → Calls Tryz.prog 34 #[.string (bytes r9)] W fun e w' => e = .returned (.tuple #[.string (bytes tx), .bool true]) ∧ Below W.heap.size W w' := fun W hW => (CB0 W hW).mono fun e w' hx => ⟨hx.1, by rw [hx.2]; exact Below.refl _ _⟩
            have hfit : ElmsFit es := fit_of_len (by omega)
            by_cases hR : rightE ⟨gr, fr, td, at', bytes h, bytes a, bytes p, bytes i, es, bytes tx⟩ = 0
            · refine (parse_fit l r1 r2 r3 r4 r5 r6 r7 r8 r9 dec date h a p i tx fr gr at' td es w hS hm hl h1 h2 h3 k1 k2 k3 k4 k5 CO CM CE CB hfit (by omega) hR).mono fun e w' hx => .inr ?_
              exact ⟨gr, fr, at', td, h, a, p, i, tx, es, hx, hR, by omega, by omega⟩
            · exact (parse_b5 l r1 r2 r3 r4 r5 r6 r7 r8 r9 dec date h a p i tx fr gr at' td es w hS hm hl h1 h2 h3 k1 k2 k3 k4 k5 CO CM CE CB hfit (by omega) _ rfl hR).mono fun e w' hx => .inl hx
/-- A right event's text is parsed as it. -/
theorem parse_printed (g f a : Int) (t : Bool) (ho ap pr id tx : ByteArray) (da : List Elm) (T : List UInt8) (w : World) (hS : Std w) (hm : Max w) (hP : Cal.Pow w)
    (hr : rightE ⟨g, f, t, a, ho, ap, pr, id, da, tx⟩ = 0) (hT : TimeIs t a T) (hl : (elmsT da).length ≤ 8388608) (htx : tx.size ≤ 4194304) :
    Calls Tryz.prog 16 #[.string (bytes (printT g f T ho ap pr id da tx))] w (GoodAns g f t a ho.data.toList ap.data.toList pr.data.toList id.data.toList tx.data.toList da w) := by
  obtain ⟨⟨g1, g2⟩, ⟨f1, f2⟩, tm, ⟨wo1, wo2, wo3, wo4⟩, dd, _, d64, p64⟩ := right_parts hr
  have s1 := word_len wo1 (by decide)
  have s2 := word_len wo2 (by decide)
  have s3 := word_len wo3 (by decide)
  have s4 := word_len wo4 (by decide)
  have tl := time_len hT
  have dl := dec_len (8 * f + g).toNat (by omega)
  have o1 := orB_size ho
  have o2 := orB_size ap
  have o3 := orB_size pr
  have o4 := orB_size id
  have hT0 : T ≠ [] := by
    rcases hT with ⟨_, rfl⟩ | ⟨_, y, m, d, hh, i, s, k, _, rfl⟩
    · decide
    · intro h
      have e := congrArg List.length h
      unfold Cal.dateText at e
      simp only [List.length_append, Cal.pad_length, List.length_cons, List.length_nil] at e
      omega
  have hbt : (behindT tx.data.toList).length ≤ tx.size + 4 := by
    unfold behindT
    split
    · simp
    · simp
  have het : (if da = [] then [45] else elmsT da).length ≤ 8388609 := by
    split
    · simp
    · omega
  rw [printT_parts]
  refine parse_fit _ _ _ _ _ _ _ _ _ (behindT tx.data.toList) (Lib.decDigits (8 * f + g).toNat) (if T = [45] then [] else T) ho.data.toList ap.data.toList pr.data.toList id.data.toList tx.data.toList f g a t da w hS hm ?_
    (until_here 60 _) (until_at 62 _ _ (dec_digs (by omega))) (until_one 49 32 _ (by decide)) (told_at T _ (time_no32 hT) hT0) (told_or wo1 _) (told_or wo2 _) (told_or wo3 _) (told_or wo4 _) ?_ ?_ ?_ ?_ (fit_of_len (by omega)) (by rw [list_size]; omega) ?_
  · simp only [List.length_cons, List.length_append, list_size]
    omega
  · intro W hW
    refine (origin_dec (8 * f + g).toNat W (by omega) (hP.below hW)).mono ?_
    rintro e w' ⟨he, hb⟩
    refine ⟨?_, hb⟩
    rw [he, show (((8 * f + g).toNat : Nat) : Int) / 8 = f by omega, show (((8 * f + g).toNat : Nat) : Int) % 8 = g by omega]
  · exact fun W hW => moment_time hT tm W (hS.below hW).1
  · intro W _
    by_cases hda : da = []
    · subst hda
      rw [if_pos rfl]
      refine (elements_none (behindT tx.data.toList) W).mono ?_
      rintro e w' ⟨he, rfl⟩
      exact ⟨none, 0, he, fun V _ => ElmsAt.nil V none 0, Below.refl _ _⟩
    · rw [if_neg hda]
      refine elements_good da _ W hda d64 (fun e he => ?_) (fun _ => ?_) ?_
      · have hn := data_names dd e he
        exact ⟨hn.1, hn.2, p64 e he⟩
      · rcases behind_head tx.data.toList with h | ⟨r, h⟩
        · rw [h]; rfl
        · rw [h]; rfl
      · rw [List.length_append]; omega
  · intro W _
    refine (behind_any _ W).mono ?_
    rintro e w' ⟨he, rfl⟩
    refine ⟨?_, Below.refl _ _⟩
    rw [he]
    have hbk : behindL (behindT tx.data.toList) = (tx.data.toList, true) := by
      unfold behindT
      split
      · rename_i h; rw [h]; rfl
      · rename_i h
        unfold behindL
        rw [if_neg (by simp)]
        have q1 : Lib.hasPrefix (32 :: 239 :: 187 :: 191 :: tx.data.toList) [32] = true := by simp [Lib.hasPrefix, List.isPrefixOf]
        have q2 : Lib.trimPrefix (32 :: 239 :: 187 :: 191 :: tx.data.toList) [32] = 239 :: 187 :: 191 :: tx.data.toList := by unfold Lib.trimPrefix; rw [q1]; rfl
        have q3 : Lib.hasPrefix (239 :: 187 :: 191 :: tx.data.toList) [239, 187, 191] = true := by simp [Lib.hasPrefix, List.isPrefixOf]
        have q4 : Lib.trimPrefix (239 :: 187 :: 191 :: tx.data.toList) [239, 187, 191] = tx.data.toList := by unfold Lib.trimPrefix; rw [q3]; rfl
        rw [q1, q2, q3, q4]
        rfl
    rw [hbk]
  · simp only [bytes_self]
    exact hr
end Go.Proofs.YtmmghppjhmdikaaGreatDoor
/- What sysl.Parse answers of every text, exactly: the right event that the text tells, or none. Conditions: the tables stand; the size. -/
namespace Go.Proofs.YtmmghppjhmdikaaGreatDoor
open Go.ChangeShapes Go.WideShapes Go.ChangeAt Go.RowKit
open Cal (clamp DateIs dateText nanosI rightB)

/-- The moment that a time's text tells. -/
def MomIs (l : List UInt8) (td : Bool) (at' : Int) : Prop :=
  (l = [] ∧ td = false ∧ at' = 0) ∨ (l ≠ [] ∧ td = true ∧ ∃ y m d h i s n z : Int, Cal.ParsedAs l y m d h i s n z [] 0 ∧ at' = nanosI y m d h i s n z)
theorem mom_one {l : List UInt8} {td td' : Bool} {a a' : Int} (h : MomIs l td a) (g : MomIs l td' a') : td = td' ∧ a = a' := by
  rcases h with ⟨h1, rfl, rfl⟩ | ⟨h1, rfl, y, m, d, h, i, s, n, z, hp, rfl⟩
  · rcases g with ⟨_, rfl, rfl⟩ | ⟨g1, _⟩
    · exact ⟨rfl, rfl⟩
    · exact absurd h1 g1
  · rcases g with ⟨g1, _⟩ | ⟨_, rfl, y', m', d', h', i', s', n', z', hq, rfl⟩
    · exact absurd g1 h1
    · obtain ⟨rfl, rfl, rfl, rfl, rfl, rfl, rfl, rfl, _, _⟩ := parsed_one hp hq
      exact ⟨rfl, rfl⟩
theorem moment_exact (l : List UInt8) (hl : l.length ≤ 16777216) :
    (∃ (td : Bool) (at' : Int), MomIs l td at' ∧ ∀ W, Cal.Tab W → Calls Tryz.prog 32 #[.string (bytes l)] W fun e w' => e = .returned (.tuple #[.bool td, .int .i64 at', .bool true]) ∧ Below W.heap.size W w') ∨
    ((∀ td at', ¬ MomIs l td at') ∧ ∀ W, Cal.Tab W → Calls Tryz.prog 32 #[.string (bytes l)] W fun e w' => e = .returned (.tuple #[.bool false, .int .i64 0, .bool false]) ∧ Below W.heap.size W w') := by
  by_cases h0 : l = []
  · refine .inl ⟨false, 0, .inl ⟨h0, rfl, rfl⟩, fun W hW => (moment_any l W hW (by omega)).mono ?_⟩
    rintro e w' ⟨⟨_, he⟩ | ⟨h1, _⟩, hb⟩
    · exact ⟨he, hb⟩
    · exact absurd h0 h1
  · by_cases hx : ∃ y m d h i s n z : Int, Cal.ParsedAs l y m d h i s n z [] 0
    · obtain ⟨y, m, d, h, i, s, n, z, hp⟩ := hx
      refine .inl ⟨true, nanosI y m d h i s n z, .inr ⟨h0, rfl, y, m, d, h, i, s, n, z, hp, rfl⟩, fun W hW => (moment_any l W hW (by omega)).mono ?_⟩
      rintro e w' ⟨⟨h1, _⟩ | ⟨_, y', m', d', h', i', s', n', z', t', err', hq, hc⟩, hb⟩
      · exact absurd h1 h0
      · obtain ⟨rfl, rfl, rfl, rfl, rfl, rfl, rfl, rfl, rfl, rfl⟩ := parsed_one hp hq
        rcases hc with ⟨_, _, he⟩ | ⟨hn, _⟩
        · exact ⟨he, hb⟩
        · exact absurd ⟨rfl, rfl⟩ hn
    · refine .inr ⟨fun td at' hm => ?_, fun W hW => (moment_any l W hW (by omega)).mono ?_⟩
      · rcases hm with ⟨h1, _⟩ | ⟨_, _, y, m, d, h, i, s, n, z, hp, _⟩
        · exact h0 h1
        · exact hx ⟨y, m, d, h, i, s, n, z, hp⟩
      rintro e w' ⟨⟨h1, _⟩ | ⟨_, y', m', d', h', i', s', n', z', t', err', hq, hc⟩, hb⟩
      · exact absurd h1 h0
      · rcases hc with ⟨rfl, rfl, _⟩ | ⟨_, he⟩
        · exact absurd ⟨_, _, _, _, _, _, _, _, hq⟩ hx
        · exact ⟨he, hb⟩
/-- The parts that a text tells. -/
def Reads (l : List UInt8) (gr fr at' : Int) (td : Bool) (h a p i tx : List UInt8) (es : List Elm) : Prop :=
  ∃ r1 r2 r3 r4 r5 r6 r7 r8 r9 dec date : List UInt8, untilL [60] (l, true) = ([], r1, true) ∧ untilL [62] (r1, true) = (dec, r2, true) ∧ untilL [32] (r2, true) = ([49], r3, true) ∧
    toldL (r3, true) = (date, r4, true) ∧ toldL (r4, true) = (h, r5, true) ∧ toldL (r5, true) = (a, r6, true) ∧ toldL (r6, true) = (p, r7, true) ∧ toldL (r7, true) = (i, r8, true) ∧
    originL dec = some (fr, gr) ∧ MomIs date td at' ∧ elementsL r8 = some (es, r9) ∧ behindL r9 = (tx, true)
theorem parse_unread (l : List UInt8) (w : World) (hS : Std w) (hm : Max w) (hP : Cal.Pow w) (hE : Errs w) (hl : l.length ≤ 16777216)
    (hx : ∀ gr fr at' td h a p i tx es, Reads l gr fr at' td h a p i tx es → rightE ⟨gr, fr, td, at', bytes h, bytes a, bytes p, bytes i, es, bytes tx⟩ ≠ 0) :
    Calls Tryz.prog 16 #[.string (bytes l)] w (BadAns w) := by
  have hNR := hx
  clear hx
  rcases h1 : untilL [60] (l, true) with ⟨ahead, r1, f1⟩
  rcases h2 : untilL [62] (r1, f1) with ⟨dec, r2, f2⟩
  rcases h3 : untilL [32] (r2, f2) with ⟨form, r3, f3⟩
  rcases k1 : toldL (r3, f3) with ⟨date, r4, f4⟩
  rcases k2 : toldL (r4, f4) with ⟨h, r5, f5⟩
  rcases k3 : toldL (r5, f5) with ⟨a, r6, f6⟩
  rcases k4 : toldL (r6, f6) with ⟨p, r7, f7⟩
  rcases k5 : toldL (r7, f7) with ⟨i, r8, f8⟩
  have l1 : r1.length ≤ l.length := by have := until_len [60] (l, true); rw [h1] at this; exact this
  have l2 : r2.length ≤ l.length := by have := until_len [62] (r1, f1); rw [h2] at this; exact Nat.le_trans this l1
  have l3 : r3.length ≤ l.length := by have := until_len [32] (r2, f2); rw [h3] at this; exact Nat.le_trans this l2
  have l4 : r4.length ≤ l.length := by have := told_len (r3, f3); rw [k1] at this; exact Nat.le_trans this l3
  have l5 : r5.length ≤ l.length := by have := told_len (r4, f4); rw [k2] at this; exact Nat.le_trans this l4
  have l6 : r6.length ≤ l.length := by have := told_len (r5, f5); rw [k3] at this; exact Nat.le_trans this l5
  have l7 : r7.length ≤ l.length := by have := told_len (r6, f6); rw [k4] at this; exact Nat.le_trans this l6
  have l8 : r8.length ≤ l.length := by have := told_len (r7, f7); rw [k5] at this; exact Nat.le_trans this l7
  have ldec : dec.length ≤ l.length := by have := untilp_len [62] (r1, f1); rw [h2] at this; exact Nat.le_trans this l1
  have ldate : date.length ≤ l.length := Nat.le_trans (toldp_len k1) l3
  by_cases hb : f8 = true ∧ ahead = [] ∧ form = [49]
  case neg => exact (parse_b0 l r1 r2 r3 r4 r5 r6 r7 r8 ahead dec form date h a p i f1 f2 f3 f4 f5 f6 f7 f8 w hm hl h1 h2 h3 k1 k2 k3 k4 k5 hb)
  case pos =>
    obtain ⟨rfl, rfl, rfl⟩ := hb
    obtain rfl := told_flag k5
    obtain rfl := told_flag k4
    obtain rfl := told_flag k3
    obtain rfl := told_flag k2
    obtain rfl := told_flag k1
    obtain rfl := until_flag h3
    obtain rfl := until_flag h2
    have CO0 := fun W (hW : Below w.heap.size w W) => origin_any dec W (hP.below hW) (hE.below hW) (by omega)
    cases ho : originL dec with
    | none =>
      refine (parse_b1 l r1 r2 r3 r4 r5 r6 r7 r8 dec date h a p i w hS hm hl h1 h2 h3 k1 k2 k3 k4 k5 fun W hW => (CO0 W hW).mono fun e w' hx => ?_)
      obtain ⟨he, hbl⟩ := hx
      rw [ho] at he
      exact ⟨he, hbl⟩
    | some fg =>
      obtain ⟨fr, gr⟩ := fg
      have CO : ∀ W, Below w.heap.size w W → Calls Tryz.prog 31 #[.string (bytes dec)] W fun e w' => e = .returned (.tuple #[.int .i64 fr, .int .i64 gr, .bool true]) ∧ Below W.heap.size W w' := fun W hW => (CO0 W hW).mono fun e w' hx => by
        obtain ⟨he, hbl⟩ := hx
        rw [ho] at he
        exact ⟨he, hbl⟩
      rcases moment_exact date (by omega) with ⟨td, at', hMI, hM⟩ | ⟨_, hM⟩
      case inr => exact (parse_b2 l r1 r2 r3 r4 r5 r6 r7 r8 dec date h a p i fr gr w hS hm hl h1 h2 h3 k1 k2 k3 k4 k5 CO fun W hW => hM W (hS.below hW).1)
      case inl =>
        have CM := fun W (hW : Below w.heap.size w W) => hM W (hS.below hW).1
        have CE0 := fun W (_ : Below w.heap.size w W) => elements_any r8 W (by omega)
        cases he : elementsL r8 with
        | none =>
          refine (parse_b3 l r1 r2 r3 r4 r5 r6 r7 r8 dec date h a p i fr gr at' td w hS hm hl h1 h2 h3 k1 k2 k3 k4 k5 CO CM fun W hW => (CE0 W hW).mono fun e w' hx => ?_)
          unfold ElementsAns at hx
          rw [he] at hx
          exact hx
        | some er =>
          obtain ⟨es, r9⟩ := er
          have hsum := elements_sum he
          simp only at hsum
          have CE : ∀ W, Below w.heap.size w W → Calls Tryz.prog 33 #[.string (bytes r8)] W fun e w' => ∃ la lc, e = .returned (.tuple #[.slice la es.length lc, .string (bytes r9), .bool true]) ∧ (∀ V, Agree W.heap.size w' V → ElmsAt V (.slice la es.length lc) es) ∧ Below W.heap.size W w' := fun W hW => (CE0 W hW).mono fun e w' hx => by
            unfold ElementsAns at hx
            rw [he] at hx
            exact hx
          rcases hbh : behindL r9 with ⟨tx, fb⟩
          have ltx : tx.length ≤ r9.length := by have := behind_len r9; rw [hbh] at this; exact this
          have CB0 := fun W (_ : Below w.heap.size w W) => behind_any r9 W
          rw [hbh] at CB0
          cases fb with
          | false => exact (parse_b4 l r1 r2 r3 r4 r5 r6 r7 r8 r9 dec date h a p i tx fr gr at' td es w hS hm hl h1 h2 h3 k1 k2 k3 k4 k5 CO CM CE fun W hW => (CB0 W hW).mono fun e w' hx => ⟨hx.1, by rw [hx.2]; exact Below.refl _ _⟩)
          | true =>
            have CB : ∀ W, Below w.heap.size w W → Calls Tryz.prog 34 #[.string (bytes r9)] W fun e w' => e = .returned (.tuple #[.string (bytes tx), .bool true]) ∧ Below W.heap.size W w' := fun W hW => (CB0 W hW).mono fun e w' hx => ⟨hx.1, by rw [hx.2]; exact Below.refl _ _⟩
            have hfit : ElmsFit es := fit_of_len (by omega)
            by_cases hR : rightE ⟨gr, fr, td, at', bytes h, bytes a, bytes p, bytes i, es, bytes tx⟩ = 0
            · exact absurd hR (hNR _ _ _ _ _ _ _ _ _ _ ⟨_, _, _, _, _, _, _, _, _, _, _, h1, h2, h3, k1, k2, k3, k4, k5, ho, hMI, he, hbh⟩)
            · exact (parse_b5 l r1 r2 r3 r4 r5 r6 r7 r8 r9 dec date h a p i tx fr gr at' td es w hS hm hl h1 h2 h3 k1 k2 k3 k4 k5 CO CM CE CB hfit (by omega) _ rfl hR)
/-- A text that tells a right event is parsed as it. -/
theorem parse_reads {l : List UInt8} {gr fr at' : Int} {td : Bool} {h a p i tx : List UInt8} {es : List Elm} (hx : Reads l gr fr at' td h a p i tx es)
    (hR : rightE ⟨gr, fr, td, at', bytes h, bytes a, bytes p, bytes i, es, bytes tx⟩ = 0) (w : World) (hS : Std w) (hm : Max w) (hP : Cal.Pow w) (hE : Errs w) (hl : l.length ≤ 16777216) :
    (Calls Tryz.prog 16 #[.string (bytes l)] w (GoodAns gr fr td at' h a p i tx es w)) ∧ (elmsT es).length ≤ 2 * l.length ∧ tx.length ≤ l.length := by
  obtain ⟨r1, r2, r3, r4, r5, r6, r7, r8, r9, dec, date, h1, h2, h3, k1, k2, k3, k4, k5, ho, hMI, he, hbh⟩ := hx
  have l1 : r1.length ≤ l.length := by have := until_len [60] (l, true); rw [h1] at this; exact this
  have l2 : r2.length ≤ l.length := by have := until_len [62] (r1, true); rw [h2] at this; exact Nat.le_trans this l1
  have l3 : r3.length ≤ l.length := by have := until_len [32] (r2, true); rw [h3] at this; exact Nat.le_trans this l2
  have l4 : r4.length ≤ l.length := by have := told_len (r3, true); rw [k1] at this; exact Nat.le_trans this l3
  have l5 : r5.length ≤ l.length := by have := told_len (r4, true); rw [k2] at this; exact Nat.le_trans this l4
  have l6 : r6.length ≤ l.length := by have := told_len (r5, true); rw [k3] at this; exact Nat.le_trans this l5
  have l7 : r7.length ≤ l.length := by have := told_len (r6, true); rw [k4] at this; exact Nat.le_trans this l6
  have l8 : r8.length ≤ l.length := by have := told_len (r7, true); rw [k5] at this; exact Nat.le_trans this l7
  have ldec : dec.length ≤ l.length := by have := untilp_len [62] (r1, true); rw [h2] at this; exact Nat.le_trans this l1
  have ldate : date.length ≤ l.length := Nat.le_trans (toldp_len k1) l3
  have hsum := elements_sum he
  simp only at hsum
  have ltx : tx.length ≤ r9.length := by have := behind_len r9; rw [hbh] at this; exact this
  have hfit : ElmsFit es := fit_of_len (by omega)
  have CM : ∀ W, Cal.Tab W → Calls Tryz.prog 32 #[.string (bytes date)] W fun e w' => e = .returned (.tuple #[.bool td, .int .i64 at', .bool true]) ∧ Below W.heap.size W w' := by
    rcases moment_exact date (by omega) with ⟨td', at'', hMI', hM⟩ | ⟨hn, _⟩
    · obtain ⟨rfl, rfl⟩ := mom_one hMI hMI'
      exact hM
    · exact absurd hMI (hn _ _)
  refine ⟨parse_fit l r1 r2 r3 r4 r5 r6 r7 r8 r9 dec date h a p i tx fr gr at' td es w hS hm hl h1 h2 h3 k1 k2 k3 k4 k5 (fun W hW => (origin_any dec W (hP.below hW) (hE.below hW) (by omega)).mono fun e w' hx => ?_) (fun W hW => CM W (hS.below hW).1)
    (fun W _ => (elements_any r8 W (by omega)).mono fun e w' hx => ?_) (fun W _ => ?_) hfit (by omega) hR, by omega, by omega⟩
  · obtain ⟨hh, hbl⟩ := hx
    rw [ho] at hh
    exact ⟨hh, hbl⟩
  · unfold ElementsAns at hx
    rw [he] at hx
    exact hx
  · have hb := behind_any r9 W
    rw [hbh] at hb
    exact hb.mono fun e w' hx => ⟨hx.1, by rw [hx.2]; exact Below.refl _ _⟩
end Go.Proofs.YtmmghppjhmdikaaGreatDoor
