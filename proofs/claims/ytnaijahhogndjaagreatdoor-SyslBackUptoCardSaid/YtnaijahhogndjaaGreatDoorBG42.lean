/- What sysl.origin answers of every text. Conditions: the table of powers stands, the two errors' variables hold errors; the size. -/
import Derived.Test.YtnaijahhogndjaaGreatDoorBG40
import Derived.Test.YtnaijahhogndjaaGreatDoorBG41
namespace Go.Proofs.YtnaijahhogndjaaGreatDoor
open Go.ChangeShapes Go.WideShapes Go.ChangeAt Go.RowKit

/-- The library's two errors' variables hold errors. -/
def Errs (w : World) : Prop := 6 < w.heap.size ∧ (∃ tp p, w.cell? ⟨5, 0, none⟩ = some (.iface tp p)) ∧ ∃ tp p, w.cell? ⟨6, 0, none⟩ = some (.iface tp p)
theorem Errs.below {w w' : World} (h : Errs w) (hb : Below w.heap.size w w') : Errs w' := by
  obtain ⟨h1, ⟨t, p, h2⟩, t', p', h3⟩ := h
  exact ⟨Nat.lt_of_lt_of_le h1 hb.size, ⟨t, p, (hb.cell (p := ⟨5, 0, none⟩) (by show 5 < _; omega)).trans h2⟩, t', p', (hb.cell (p := ⟨6, 0, none⟩) h1).trans h3⟩
theorem atoi_bounds {l : List UInt8} {v : Int} (h : Lib.atoiAll l = .ok v) : -9223372036854775808 ≤ v ∧ v ≤ 9223372036854775807 := by
  unfold Lib.atoiAll at h
  split at h
  · cases h
  · dsimp only at h
    split at h
    · cases h
    · cases h
    · split at h
      · cases h
      · split at h
        · cases h
        · cases h
          split <;> omega
/-- What a decimal tells: where from, how grave. -/
def originL (l : List UInt8) : Option (Int × Int) := match Lib.atoiAll l with
  | .ok v => if Lib.itoa v = l then some (v.tdiv 8, v.tmod 8) else none
  | _ => none
def OriginAns (l : List UInt8) (w : World) (e : Ending) (w' : World) : Prop :=
  e = .returned (match originL l with | some p => .tuple #[.int .i64 p.1, .int .i64 p.2, .bool true] | none => .tuple #[.int .i64 0, .int .i64 0, .bool false]) ∧ Below w.heap.size w w'
set_option maxHeartbeats 1000000 in
set_option maxRecDepth 100000 in
theorem origin_any (l : List UInt8) (w : World) (hP : Cal.Pow w) (hE : Errs w) (hl : l.length ≤ 16777216) :
    Calls Tryz.prog 56 #[.string (bytes l)] w (OriginAns l w) := by
  have hz : (bytes l).size = l.length := bytes_size l
  cases ha : Lib.atoiAll l with
  | ok v =>
    obtain ⟨b1, b2⟩ := atoi_bounds ha
    have HA := Lib.hid (Tryz.strconv_Atoi_ok (bytes l) (by omega) v (by rw [bytes_list]; exact ha) w)
    obtain ⟨D, hD⟩ : ∃ D, bytes (Lib.itoa v) = D := ⟨_, rfl⟩
    have HI := Lib.hid (fun W (hW : Cal.Pow W) => show Calls Tryz.prog 26 #[.int .i64 v] W fun e w' => e = .returned (.string D) ∧ Below W.heap.size W w' from (Tryz.strconv_Itoa v b1 b2 W hW.2).mono fun e w' ⟨h1, k, os, h2⟩ => ⟨by rw [h1, ← hD]; rfl, by rw [h2]; exact Cal.grown_below W k os⟩)
    obtain ⟨b, hb⟩ : ∃ b : Bool, decide (Lib.itoa v = l) = b := ⟨_, rfl⟩
    have hq : (D.toList == (bytes l).toList) = b := by
      rw [eq_text, ← hD, ← hb]
      refine decide_eq_decide.2 ⟨fun h => ?_, fun h => by rw [h]⟩
      have := congrArg (fun s : ByteArray => s.data.toList) h
      exact this
    have HO := Lib.hid (show originL l = if b = true then some (v.tdiv 8, v.tmod 8) else none by
      unfold originL
      rw [ha, ← hb]
      simp)
    have hp := Lib.hid hP
    clear hP hE hz ha hD hb
    go_enter Tryz.func56, Tryz.ntmps56
    go_wp2_with fail
    refine HA.out.mono ?_
    rintro e w2 ⟨rfl, hw2⟩
    have hb2 : Below w.heap.size w w2 := by
      rcases hw2 with rfl | ⟨t, rfl⟩
      · exact Below.refl _ _
      · exact bytesWorld_below w 5 t
    have hp2 := hp.out.below hb2
    clear hw2
    go_wp2_with fail
    refine (HI.out _ hp2).mono ?_
    rintro e w3 ⟨rfl, hb3⟩
    have B3 := Lib.hid (hb2.trans (hb3.mono hb2.size))
    clear hb2 hb3 hp2
    cases b with
    | true =>
      go_wp2
      change bodyPost Tryz.prog Tryz.f56 (OriginAns l w) Exit.ret _ _
      refine bodyPost_ret (v := .tuple #[.int .i64 (v.tdiv 8), .int .i64 (v.tmod 8), .bool true]) (by simp [results, Tryz.results56, go_sem]) rfl ⟨?_, B3.out⟩
      rw [HO.out]
      simp
    | false =>
      go_wp2
      change bodyPost Tryz.prog Tryz.f56 (OriginAns l w) Exit.ret _ _
      refine bodyPost_ret (v := .tuple #[.int .i64 0, .int .i64 0, .bool false]) (by simp [results, Tryz.results56, go_sem]) rfl ⟨?_, B3.out⟩
      rw [HO.out]
      simp
  | range =>
    obtain ⟨_, _, tp, p, h6⟩ := hE
    have HA := Lib.hid (Tryz.strconv_Atoi_range (bytes l) (by omega) (by rw [bytes_list]; exact ha) _ w h6 (.inr ⟨_, _, rfl⟩))
    have HO := Lib.hid (show originL l = none by unfold originL; rw [ha])
    clear hP h6 hz ha
    go_enter Tryz.func56, Tryz.ntmps56
    go_wp2_with fail
    refine HA.out.mono ?_
    rintro e w2 ⟨N, rfl, _, _, hb2⟩
    have B2 := Lib.hid hb2
    clear hb2
    go_wp2
    change bodyPost Tryz.prog Tryz.f56 (OriginAns l w) Exit.ret _ _
    refine bodyPost_ret (v := .tuple #[.int .i64 0, .int .i64 0, .bool false]) (by simp [results, Tryz.results56, go_sem]) rfl ⟨?_, B2.out⟩
    rw [HO.out]
  | _ =>
    obtain ⟨_, ⟨tp, p, h5⟩, _⟩ := hE
    have HA := Lib.hid (Tryz.strconv_Atoi_none (bytes l) (by omega) (fun v h => by rw [bytes_list, ha] at h; cases h) (fun h => by rw [bytes_list, ha] at h; cases h) _ w h5 (.inr ⟨_, _, rfl⟩))
    have HO := Lib.hid (show originL l = none by unfold originL; rw [ha])
    clear hP h5 hz ha
    go_enter Tryz.func56, Tryz.ntmps56
    go_wp2_with fail
    refine HA.out.mono ?_
    rintro e w2 ⟨N, rfl, _, _, hb2⟩
    have B2 := Lib.hid hb2
    clear hb2
    go_wp2
    change bodyPost Tryz.prog Tryz.f56 (OriginAns l w) Exit.ret _ _
    refine bodyPost_ret (v := .tuple #[.int .i64 0, .int .i64 0, .bool false]) (by simp [results, Tryz.results56, go_sem]) rfl ⟨?_, B2.out⟩
    rw [HO.out]
end Go.Proofs.YtnaijahhogndjaaGreatDoor
