/-
  DERIVED. GIVEN WITH THE SEED: THE CARDS: each row of YtmmghppjhmdikaaGreatDoorRows.lean that lists a variable, with what it lists TIED to the program's text (the seventh form; the later family's looks); each row that meets fmt, with fmt's text TOLD by the authors' own Lean function (tested against real Go, not proved from fmt's source: count such statements apart). THE CARD IS WHAT COUNTS. Prove the row's statement (the work); the ties are given (YtmmghppjhmdikaaGreatDoorTie.lean); close each card by the builder's one call (the guide's Derived/Test/ToyasCard.lean, 'card_holds'). Laid BY PROGRAM, IN A SANDBOX (cutbox-door.mjs). By AI agents, Wed Nov 11 2026. No macro, syntax, notation, axiom, sorry.
-/
import Derived.Test.YtmmghppjhmdikaaGreatDoorRows
import GoSem.ClaimSeven
namespace Go.Proofs.YtmmghppjhmdikaaGreatDoor
namespace Rows

/-- THE TIED CARD OF 'tabularylaw19.AuditFits'. -/
def auditFitsCard : Claim7 := { stood := { row := auditFitsRow, standIns := [], harness := (true, "6ef8e5128bed923bfea35410335c41c208f8cf4d3a430c339f51e28bf327a26c"), looks := true }, kinds := [], alts := [], laidByText := true, laidKinds := [.data, .data, .data, .data, .sentinel, .sentinel, .data, .pinned], laidTests := true, laidLooks := .later }
def AuditFitsCardSaid : Prop := Claim7.holds Tryz.pinned (.plain (OpenSpec.ofChange auditFitsSpec)) auditFitsCard

/-- THE SECOND FORM's CARD OF 'tabularylaw19.AuditFits'. -/
def auditFitsUptoCard : Claim7 := { stood := { row := auditFitsUptoRow, standIns := [], harness := (true, "6ef8e5128bed923bfea35410335c41c208f8cf4d3a430c339f51e28bf327a26c"), looks := true }, kinds := [], alts := [], laidByText := true, laidKinds := [.data, .data, .data, .data, .sentinel, .sentinel, .data, .pinned], laidTests := true, laidLooks := .later }
def AuditFitsUptoCardSaid : Prop := Claim7.holds Tryz.pinned (.plain (OpenSpec.upto auditFitsSpec)) auditFitsUptoCard
end Rows
end Go.Proofs.YtmmghppjhmdikaaGreatDoor
