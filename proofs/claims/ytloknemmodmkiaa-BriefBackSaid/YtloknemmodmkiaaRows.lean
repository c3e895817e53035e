/-
  No cell of these rows narrows 'for every input' (looked for: loops, veiled, ifaces, maps, wideKeys, modest, calm, conditions, laid).
  DERIVED. THE GIVEN ROWS OF THIS SEAT. 6 by the template 'for every input the law returns true; each argument reads behind the call as it read before'; 0 by the template 'total and deterministic' (their statements: YtloknemmodmkiaaTotals.lean).
  GIVEN WITH THE SEED: the statements are not yours to turn. If you find one false, say at which input.
  Laid BY PROGRAM, IN A SANDBOX (cutbox-rows.mjs): the forced cells as the released guide's own fill.sh prints them over the translation 66590c80a11e3130… (all of the seat's roots in one cut). By AI agents, Wed Nov 11 2026. No macro, syntax, notation, axiom, sorry.
-/
import Derived.Test.YtloknemmodmkiaaChecked
import GoSem.Claim
import GoSem.ClaimJoined
import GoSem.ClaimMapViews
import Derived.JoinedTies
import Derived.KernelRfl
namespace Go.Proofs.Ytloknemmodmkiaa
/- THE CELL 'sum', in the pinned program and in every row, IS THE sha256 OF THE DUMP (.gsa) THAT YtloknemmodmkiaaProg.lean LOADS. Nothing in Lean hashes anything: it is a label: what it is worth is what the hold of that sum in a sandbox is worth. -/
noncomputable def Try.pinned : Pinned := { name := "ytloknemmodmkiaa", sum := "66590c80a11e31300a8b69f59adb193186e8b5687f174a87440365d52ad39af2", checked := Try.checked }
namespace Rows
def none {H : Type} : Left H := { results := [], args := [] }

/-- 'tabularylaw06.BriefAsks': WHATEVER THE INPUT: true; the input reads as it did. -/
def briefAsksSpec : ChangeSpec := { name := "briefAsks", fn := fun _ => fun
  | [d1, d2, d3] => { results := [.lit (.bool true)], args := [d1, d2, d3] }
  | _ => none }
def briefAsksRow : OpenClaim := { program := "ytloknemmodmkiaa", sum := "66590c80a11e31300a8b69f59adb193186e8b5687f174a87440365d52ad39af2", func := "tabulary/tabularylaw06.BriefAsks", spec := "briefAsks", apart := false }
def BriefAsksSaid : Prop := briefAsksRow.holds Try.pinned (OpenSpec.ofChange briefAsksSpec)

/-- ITS FALSE NEIGHBOUR: 'it returns false'. Refute it at one input. -/
def briefAsksWrong : ChangeSpec := { name := "briefAsks", fn := fun _ => fun
  | [d1, d2, d3] => { results := [.lit (.bool false)], args := [d1, d2, d3] }
  | _ => none }
def BriefAsksWrongFalsely : Prop := briefAsksRow.holds Try.pinned (OpenSpec.ofChange briefAsksWrong)

/-- 'tabularylaw06.BriefNone': WHATEVER THE INPUT: true; the input reads as it did. -/
def briefNoneSpec : ChangeSpec := { name := "briefNone", fn := fun _ => fun
  | [d1, d2] => { results := [.lit (.bool true)], args := [d1, d2] }
  | _ => none }
def briefNoneRow : OpenClaim := { program := "ytloknemmodmkiaa", sum := "66590c80a11e31300a8b69f59adb193186e8b5687f174a87440365d52ad39af2", func := "tabulary/tabularylaw06.BriefNone", spec := "briefNone", unfollowed := true, recurses := true, apart := false }
def BriefNoneSaid : Prop := briefNoneRow.holds Try.pinned (OpenSpec.ofChange briefNoneSpec)

/-- ITS FALSE NEIGHBOUR: 'it returns false'. Refute it at one input. -/
def briefNoneWrong : ChangeSpec := { name := "briefNone", fn := fun _ => fun
  | [d1, d2] => { results := [.lit (.bool false)], args := [d1, d2] }
  | _ => none }
def BriefNoneWrongFalsely : Prop := briefNoneRow.holds Try.pinned (OpenSpec.ofChange briefNoneWrong)

/-- 'tabularylaw06.BriefOrder': WHATEVER THE INPUT: true; the input reads as it did. -/
def briefOrderSpec : ChangeSpec := { name := "briefOrder", fn := fun _ => fun
  | [d1, d2, d3] => { results := [.lit (.bool true)], args := [d1, d2, d3] }
  | _ => none }
def briefOrderRow : OpenClaim := { program := "ytloknemmodmkiaa", sum := "66590c80a11e31300a8b69f59adb193186e8b5687f174a87440365d52ad39af2", func := "tabulary/tabularylaw06.BriefOrder", spec := "briefOrder", apart := false }
def BriefOrderSaid : Prop := briefOrderRow.holds Try.pinned (OpenSpec.ofChange briefOrderSpec)

/-- ITS FALSE NEIGHBOUR: 'it returns false'. Refute it at one input. -/
def briefOrderWrong : ChangeSpec := { name := "briefOrder", fn := fun _ => fun
  | [d1, d2, d3] => { results := [.lit (.bool false)], args := [d1, d2, d3] }
  | _ => none }
def BriefOrderWrongFalsely : Prop := briefOrderRow.holds Try.pinned (OpenSpec.ofChange briefOrderWrong)

/-- 'tabularylaw06.BriefBack': WHATEVER THE INPUT: true; the input reads as it did. -/
def briefBackSpec : ChangeSpec := { name := "briefBack", fn := fun _ => fun
  | [d1, d2, d3] => { results := [.lit (.bool true)], args := [d1, d2, d3] }
  | _ => none }
def briefBackRow : OpenClaim := { program := "ytloknemmodmkiaa", sum := "66590c80a11e31300a8b69f59adb193186e8b5687f174a87440365d52ad39af2", func := "tabulary/tabularylaw06.BriefBack", spec := "briefBack", unfollowed := true, recurses := true, apart := false }
def BriefBackSaid : Prop := briefBackRow.holds Try.pinned (OpenSpec.ofChange briefBackSpec)

/-- ITS FALSE NEIGHBOUR: 'it returns false'. Refute it at one input. -/
def briefBackWrong : ChangeSpec := { name := "briefBack", fn := fun _ => fun
  | [d1, d2, d3] => { results := [.lit (.bool false)], args := [d1, d2, d3] }
  | _ => none }
def BriefBackWrongFalsely : Prop := briefBackRow.holds Try.pinned (OpenSpec.ofChange briefBackWrong)

/-- 'tabularylaw06.BriefParts': WHATEVER THE INPUT: true; the input reads as it did. -/
def briefPartsSpec : ChangeSpec := { name := "briefParts", fn := fun _ => fun
  | [d1, d2] => { results := [.lit (.bool true)], args := [d1, d2] }
  | _ => none }
def briefPartsRow : OpenClaim := { program := "ytloknemmodmkiaa", sum := "66590c80a11e31300a8b69f59adb193186e8b5687f174a87440365d52ad39af2", func := "tabulary/tabularylaw06.BriefParts", spec := "briefParts", unfollowed := true, recurses := true, apart := false }
def BriefPartsSaid : Prop := briefPartsRow.holds Try.pinned (OpenSpec.ofChange briefPartsSpec)

/-- ITS FALSE NEIGHBOUR: 'it returns false'. Refute it at one input. -/
def briefPartsWrong : ChangeSpec := { name := "briefParts", fn := fun _ => fun
  | [d1, d2] => { results := [.lit (.bool false)], args := [d1, d2] }
  | _ => none }
def BriefPartsWrongFalsely : Prop := briefPartsRow.holds Try.pinned (OpenSpec.ofChange briefPartsWrong)

/-- 'tabularylaw06.BriefWide': WHATEVER THE INPUT: true; the input reads as it did. -/
def briefWideSpec : ChangeSpec := { name := "briefWide", fn := fun _ => fun
  | [d] => { results := [.lit (.bool true)], args := [d] }
  | _ => none }
def briefWideRow : OpenClaim := { program := "ytloknemmodmkiaa", sum := "66590c80a11e31300a8b69f59adb193186e8b5687f174a87440365d52ad39af2", func := "tabulary/tabularylaw06.BriefWide", spec := "briefWide", apart := false }
def BriefWideSaid : Prop := briefWideRow.holds Try.pinned (OpenSpec.ofChange briefWideSpec)

/-- ITS FALSE NEIGHBOUR: 'it returns false'. Refute it at one input. -/
def briefWideWrong : ChangeSpec := { name := "briefWide", fn := fun _ => fun
  | [d] => { results := [.lit (.bool false)], args := [d] }
  | _ => none }
def BriefWideWrongFalsely : Prop := briefWideRow.holds Try.pinned (OpenSpec.ofChange briefWideWrong)

/- THE SECOND FORM. 'bulk': how many values and letters a reading holds, each counted each time it is reached (what is shared counts as often as it is met; a slice's spare places count too). A statement '..UptoSaid' is the law's where the arguments, and the package variables that the reading takes, are together of bulk at most 1048576: NARROWER than '..Said'. Prove '..Said' where nothing that the law and all that it calls make is longer than what came in: it says more and counts as full. Else prove '..UptoSaid'. A law counts once. -/
mutual
def uptoBulk {H : Type} : DataW H → Nat
  | .lit (.string bytes) => bytes.length + 1
  | .lit _ => 1
  | .nil => 1
  | .ptr d => uptoBulk d + 1
  | .slice elems spare => uptoBulkAll elems + uptoBulkAll spare + 1
  | .agg parts => uptoBulkAll parts + 1
  | .iface _ d => uptoBulk d + 1
  | .map entries => uptoBulkEntries entries + 1
  | .held _ => 1
def uptoBulkAll {H : Type} : List (DataW H) → Nat
  | [] => 0
  | d :: r => uptoBulk d + uptoBulkAll r
def uptoBulkEntries {H : Type} : List (Lit × DataW H) → Nat
  | [] => 0
  | x :: r => uptoBulkEntry x + uptoBulkEntries r
def uptoBulkEntry {H : Type} : Lit × DataW H → Nat
  | (.string bytes, d) => bytes.length + uptoBulk d + 1
  | (_, d) => uptoBulk d + 1
 end
def uptoSmall : (H : Type) → List (DataW H) → Bool := fun _ ds => decide (uptoBulkAll ds ≤ 1048576)
def OpenSpec.upto (s : _root_.Go.ChangeSpec) : _root_.Go.OpenSpec := { _root_.Go.OpenSpec.ofChange s with cond := some uptoSmall }

/-- 'tabularylaw06.BriefAsks', WHERE WHAT IT READS IS OF BULK AT MOST 1048576: true; the input reads as it did. -/
def briefAsksUptoRow : OpenClaim := { program := "ytloknemmodmkiaa", sum := "66590c80a11e31300a8b69f59adb193186e8b5687f174a87440365d52ad39af2", func := "tabulary/tabularylaw06.BriefAsks", spec := "briefAsks", apart := false, narrowed := true }
def BriefAsksUptoSaid : Prop := briefAsksUptoRow.holds Try.pinned (OpenSpec.upto briefAsksSpec)

/-- 'tabularylaw06.BriefNone', WHERE WHAT IT READS IS OF BULK AT MOST 1048576: true; the input reads as it did. -/
def briefNoneUptoRow : OpenClaim := { program := "ytloknemmodmkiaa", sum := "66590c80a11e31300a8b69f59adb193186e8b5687f174a87440365d52ad39af2", func := "tabulary/tabularylaw06.BriefNone", spec := "briefNone", unfollowed := true, recurses := true, apart := false, narrowed := true }
def BriefNoneUptoSaid : Prop := briefNoneUptoRow.holds Try.pinned (OpenSpec.upto briefNoneSpec)

/-- 'tabularylaw06.BriefOrder', WHERE WHAT IT READS IS OF BULK AT MOST 1048576: true; the input reads as it did. -/
def briefOrderUptoRow : OpenClaim := { program := "ytloknemmodmkiaa", sum := "66590c80a11e31300a8b69f59adb193186e8b5687f174a87440365d52ad39af2", func := "tabulary/tabularylaw06.BriefOrder", spec := "briefOrder", apart := false, narrowed := true }
def BriefOrderUptoSaid : Prop := briefOrderUptoRow.holds Try.pinned (OpenSpec.upto briefOrderSpec)

/-- 'tabularylaw06.BriefBack', WHERE WHAT IT READS IS OF BULK AT MOST 1048576: true; the input reads as it did. -/
def briefBackUptoRow : OpenClaim := { program := "ytloknemmodmkiaa", sum := "66590c80a11e31300a8b69f59adb193186e8b5687f174a87440365d52ad39af2", func := "tabulary/tabularylaw06.BriefBack", spec := "briefBack", unfollowed := true, recurses := true, apart := false, narrowed := true }
def BriefBackUptoSaid : Prop := briefBackUptoRow.holds Try.pinned (OpenSpec.upto briefBackSpec)

/-- 'tabularylaw06.BriefParts', WHERE WHAT IT READS IS OF BULK AT MOST 1048576: true; the input reads as it did. -/
def briefPartsUptoRow : OpenClaim := { program := "ytloknemmodmkiaa", sum := "66590c80a11e31300a8b69f59adb193186e8b5687f174a87440365d52ad39af2", func := "tabulary/tabularylaw06.BriefParts", spec := "briefParts", unfollowed := true, recurses := true, apart := false, narrowed := true }
def BriefPartsUptoSaid : Prop := briefPartsUptoRow.holds Try.pinned (OpenSpec.upto briefPartsSpec)

/-- 'tabularylaw06.BriefWide', WHERE WHAT IT READS IS OF BULK AT MOST 1048576: true; the input reads as it did. -/
def briefWideUptoRow : OpenClaim := { program := "ytloknemmodmkiaa", sum := "66590c80a11e31300a8b69f59adb193186e8b5687f174a87440365d52ad39af2", func := "tabulary/tabularylaw06.BriefWide", spec := "briefWide", apart := false, narrowed := true }
def BriefWideUptoSaid : Prop := briefWideUptoRow.holds Try.pinned (OpenSpec.upto briefWideSpec)

end Rows
end Go.Proofs.Ytloknemmodmkiaa
