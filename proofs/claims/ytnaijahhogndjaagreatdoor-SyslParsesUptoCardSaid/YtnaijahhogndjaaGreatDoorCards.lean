/-
  DERIVED. GIVEN WITH THE SEED: THE CARDS: each row of YtnaijahhogndjaaGreatDoorRows.lean that lists a variable, with what it lists TIED to the program's text (the seventh form; the later family's looks); each row that meets fmt, with fmt's text TOLD by the authors' own Lean function (tested against real Go, not proved from fmt's source: count such statements apart). THE CARD IS WHAT COUNTS. Prove the row's statement (the work); the ties are given (YtnaijahhogndjaaGreatDoorTie.lean); close each card by the builder's one call (the guide's Derived/Test/ToyasCard.lean, 'card_holds'). Laid BY PROGRAM, IN A SANDBOX (cutbox-door.mjs). By AI agents, Wed Nov 11 2026. No macro, syntax, notation, axiom, sorry.
-/
import Derived.Test.YtnaijahhogndjaaGreatDoorRows
import GoSem.ClaimSeven
namespace Go.Proofs.YtnaijahhogndjaaGreatDoor
namespace Rows

/-- THE TIED CARD OF 'tabularylaw05.SyslTells'. -/
def syslTellsCard : Claim7 := { stood := { row := syslTellsRow, standIns := [], harness := (true, "923427ab5af8d27af9b00e0fdb8139674fb9905b10de5a72e66ed4f02873bfee"), looks := true }, kinds := [], alts := [], laidByText := true, laidKinds := [.data, .data, .data, .data, .sentinel, .sentinel, .data, .pinned], laidTests := true, laidLooks := .later }
def SyslTellsCardSaid : Prop := Claim7.holds Tryz.pinned (.plain (OpenSpec.ofChange syslTellsSpec)) syslTellsCard

/-- THE TIED CARD OF 'tabularylaw05.SyslParses'. -/
def syslParsesCard : Claim7 := { stood := { row := syslParsesRow, standIns := [], harness := (true, "923427ab5af8d27af9b00e0fdb8139674fb9905b10de5a72e66ed4f02873bfee"), looks := true }, kinds := [], alts := [], laidByText := true, laidKinds := [.data, .data, .data, .data, .sentinel, .sentinel, .data, .pinned], laidTests := true, laidLooks := .later }
def SyslParsesCardSaid : Prop := Claim7.holds Tryz.pinned (.plain (OpenSpec.ofChange syslParsesSpec)) syslParsesCard

/-- THE TIED CARD OF 'tabularylaw05.SyslBack'. -/
def syslBackCard : Claim7 := { stood := { row := syslBackRow, standIns := [], harness := (true, "923427ab5af8d27af9b00e0fdb8139674fb9905b10de5a72e66ed4f02873bfee"), looks := true }, kinds := [], alts := [], laidByText := true, laidKinds := [.data, .data, .data, .data, .sentinel, .sentinel, .data, .pinned], laidTests := true, laidLooks := .later }
def SyslBackCardSaid : Prop := Claim7.holds Tryz.pinned (.plain (OpenSpec.ofChange syslBackSpec)) syslBackCard

/-- THE TIED CARD OF 'tabularylaw05.SyslValues'. -/
def syslValuesCard : Claim7 := { stood := { row := syslValuesRow, standIns := [], harness := (true, "923427ab5af8d27af9b00e0fdb8139674fb9905b10de5a72e66ed4f02873bfee"), looks := true }, kinds := [], alts := [], laidByText := true, laidKinds := [.data, .data, .data, .data, .sentinel, .sentinel, .data, .pinned], laidTests := true, laidLooks := .later }
def SyslValuesCardSaid : Prop := Claim7.holds Tryz.pinned (.plain (OpenSpec.ofChange syslValuesSpec)) syslValuesCard

/-- THE TIED CARD OF 'tabularylaw05.SyslRight'. -/
def syslRightCard : Claim7 := { stood := { row := syslRightRow, standIns := [], harness := (true, "923427ab5af8d27af9b00e0fdb8139674fb9905b10de5a72e66ed4f02873bfee"), looks := true }, kinds := [], alts := [], laidByText := true, laidKinds := [.data, .data, .data, .data, .sentinel, .sentinel, .data, .pinned], laidTests := true, laidLooks := .later }
def SyslRightCardSaid : Prop := Claim7.holds Tryz.pinned (.plain (OpenSpec.ofChange syslRightSpec)) syslRightCard

/-- THE TIED CARD OF 'tabularylaw05.SyslApart'. -/
def syslApartCard : Claim7 := { stood := { row := syslApartRow, standIns := [], harness := (true, "923427ab5af8d27af9b00e0fdb8139674fb9905b10de5a72e66ed4f02873bfee"), looks := true }, kinds := [], alts := [], laidByText := true, laidKinds := [.data, .data, .data, .data, .sentinel, .sentinel, .data, .pinned], laidTests := true, laidLooks := .later }
def SyslApartCardSaid : Prop := Claim7.holds Tryz.pinned (.plain (OpenSpec.ofChange syslApartSpec)) syslApartCard

/-- THE TIED CARD OF 'tabularylaw05.SyslGets'. -/
def syslGetsCard : Claim7 := { stood := { row := syslGetsRow, standIns := [], harness := (true, "923427ab5af8d27af9b00e0fdb8139674fb9905b10de5a72e66ed4f02873bfee"), looks := true }, kinds := [], alts := [], laidByText := true, laidKinds := [.data, .data, .data, .data, .sentinel, .sentinel, .data, .pinned], laidTests := true, laidLooks := .later }
def SyslGetsCardSaid : Prop := Claim7.holds Tryz.pinned (.plain (OpenSpec.ofChange syslGetsSpec)) syslGetsCard

/-- THE SECOND FORM's CARD OF 'tabularylaw05.SyslTells'. -/
def syslTellsUptoCard : Claim7 := { stood := { row := syslTellsUptoRow, standIns := [], harness := (true, "923427ab5af8d27af9b00e0fdb8139674fb9905b10de5a72e66ed4f02873bfee"), looks := true }, kinds := [], alts := [], laidByText := true, laidKinds := [.data, .data, .data, .data, .sentinel, .sentinel, .data, .pinned], laidTests := true, laidLooks := .later }
def SyslTellsUptoCardSaid : Prop := Claim7.holds Tryz.pinned (.plain (OpenSpec.upto syslTellsSpec)) syslTellsUptoCard

/-- THE SECOND FORM's CARD OF 'tabularylaw05.SyslParses'. -/
def syslParsesUptoCard : Claim7 := { stood := { row := syslParsesUptoRow, standIns := [], harness := (true, "923427ab5af8d27af9b00e0fdb8139674fb9905b10de5a72e66ed4f02873bfee"), looks := true }, kinds := [], alts := [], laidByText := true, laidKinds := [.data, .data, .data, .data, .sentinel, .sentinel, .data, .pinned], laidTests := true, laidLooks := .later }
def SyslParsesUptoCardSaid : Prop := Claim7.holds Tryz.pinned (.plain (OpenSpec.upto syslParsesSpec)) syslParsesUptoCard

/-- THE SECOND FORM's CARD OF 'tabularylaw05.SyslBack'. -/
def syslBackUptoCard : Claim7 := { stood := { row := syslBackUptoRow, standIns := [], harness := (true, "923427ab5af8d27af9b00e0fdb8139674fb9905b10de5a72e66ed4f02873bfee"), looks := true }, kinds := [], alts := [], laidByText := true, laidKinds := [.data, .data, .data, .data, .sentinel, .sentinel, .data, .pinned], laidTests := true, laidLooks := .later }
def SyslBackUptoCardSaid : Prop := Claim7.holds Tryz.pinned (.plain (OpenSpec.upto syslBackSpec)) syslBackUptoCard

/-- THE SECOND FORM's CARD OF 'tabularylaw05.SyslValues'. -/
def syslValuesUptoCard : Claim7 := { stood := { row := syslValuesUptoRow, standIns := [], harness := (true, "923427ab5af8d27af9b00e0fdb8139674fb9905b10de5a72e66ed4f02873bfee"), looks := true }, kinds := [], alts := [], laidByText := true, laidKinds := [.data, .data, .data, .data, .sentinel, .sentinel, .data, .pinned], laidTests := true, laidLooks := .later }
def SyslValuesUptoCardSaid : Prop := Claim7.holds Tryz.pinned (.plain (OpenSpec.upto syslValuesSpec)) syslValuesUptoCard

/-- THE SECOND FORM's CARD OF 'tabularylaw05.SyslRight'. -/
def syslRightUptoCard : Claim7 := { stood := { row := syslRightUptoRow, standIns := [], harness := (true, "923427ab5af8d27af9b00e0fdb8139674fb9905b10de5a72e66ed4f02873bfee"), looks := true }, kinds := [], alts := [], laidByText := true, laidKinds := [.data, .data, .data, .data, .sentinel, .sentinel, .data, .pinned], laidTests := true, laidLooks := .later }
def SyslRightUptoCardSaid : Prop := Claim7.holds Tryz.pinned (.plain (OpenSpec.upto syslRightSpec)) syslRightUptoCard

/-- THE SECOND FORM's CARD OF 'tabularylaw05.SyslApart'. -/
def syslApartUptoCard : Claim7 := { stood := { row := syslApartUptoRow, standIns := [], harness := (true, "923427ab5af8d27af9b00e0fdb8139674fb9905b10de5a72e66ed4f02873bfee"), looks := true }, kinds := [], alts := [], laidByText := true, laidKinds := [.data, .data, .data, .data, .sentinel, .sentinel, .data, .pinned], laidTests := true, laidLooks := .later }
def SyslApartUptoCardSaid : Prop := Claim7.holds Tryz.pinned (.plain (OpenSpec.upto syslApartSpec)) syslApartUptoCard

/-- THE SECOND FORM's CARD OF 'tabularylaw05.SyslGets'. -/
def syslGetsUptoCard : Claim7 := { stood := { row := syslGetsUptoRow, standIns := [], harness := (true, "923427ab5af8d27af9b00e0fdb8139674fb9905b10de5a72e66ed4f02873bfee"), looks := true }, kinds := [], alts := [], laidByText := true, laidKinds := [.data, .data, .data, .data, .sentinel, .sentinel, .data, .pinned], laidTests := true, laidLooks := .later }
def SyslGetsUptoCardSaid : Prop := Claim7.holds Tryz.pinned (.plain (OpenSpec.upto syslGetsSpec)) syslGetsUptoCard
end Rows
end Go.Proofs.YtnaijahhogndjaaGreatDoor
