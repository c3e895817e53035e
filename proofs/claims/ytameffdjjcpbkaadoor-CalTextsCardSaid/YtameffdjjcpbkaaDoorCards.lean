/-
  DERIVED. GIVEN WITH THE SEED: THE CARDS: each row of YtameffdjjcpbkaaDoorRows.lean that lists a variable, with what it lists TIED to the program's text (the seventh form; the later family's looks); each row that meets fmt, with fmt's text TOLD by the authors' own Lean function (tested against real Go, not proved from fmt's source: count such statements apart). THE CARD IS WHAT COUNTS. Prove the row's statement (the work); the ties are given (YtameffdjjcpbkaaDoorTie.lean); close each card by the builder's one call (the guide's Derived/Test/ToyasCard.lean, 'card_holds'). Laid BY PROGRAM, IN A SANDBOX (cutbox-door.mjs). By AI agents, Wed Nov 11 2026. No macro, syntax, notation, axiom, sorry.
-/
import Derived.Test.YtameffdjjcpbkaaDoorRows
import GoSem.ClaimSeven
namespace Go.Proofs.YtameffdjjcpbkaaDoor
namespace Rows

/-- THE TIED CARD OF 'tabularylaw04.CalDays'. -/
def calDaysCard : Claim7 := { stood := { row := calDaysRow, standIns := [], harness := (true, "b91ebcdce503558ee3eebdc8f77ed00e8ad788aa52bd3cf20abb8b454fe661a6"), looks := false }, kinds := [], alts := [], laidByText := true, laidKinds := [.data], laidTests := true, laidLooks := .later }
def CalDaysCardSaid : Prop := Claim7.holds Tryd.pinned (.plain (OpenSpec.ofChange calDaysSpec)) calDaysCard

/-- THE TIED CARD OF 'tabularylaw04.CalTexts'. -/
def calTextsCard : Claim7 := { stood := { row := calTextsRow, standIns := [], harness := (true, "b91ebcdce503558ee3eebdc8f77ed00e8ad788aa52bd3cf20abb8b454fe661a6"), looks := false }, kinds := [], alts := [], laidByText := true, laidKinds := [.data, .data, .data, .data], laidTests := true, laidLooks := .later }
def CalTextsCardSaid : Prop := Claim7.holds Tryd.pinned (.plain (OpenSpec.ofChange calTextsSpec)) calTextsCard

/-- THE TIED CARD OF 'tabularylaw04.CalBack'. -/
def calBackCard : Claim7 := { stood := { row := calBackRow, standIns := [], harness := (true, "b91ebcdce503558ee3eebdc8f77ed00e8ad788aa52bd3cf20abb8b454fe661a6"), looks := false }, kinds := [], alts := [], laidByText := true, laidKinds := [.data, .data, .data, .data], laidTests := true, laidLooks := .later }
def CalBackCardSaid : Prop := Claim7.holds Tryd.pinned (.plain (OpenSpec.ofChange calBackSpec)) calBackCard

/-- THE TIED CARD OF 'tabularylaw04.CalMoments'. -/
def calMomentsCard : Claim7 := { stood := { row := calMomentsRow, standIns := [], harness := (true, "b91ebcdce503558ee3eebdc8f77ed00e8ad788aa52bd3cf20abb8b454fe661a6"), looks := false }, kinds := [], alts := [], laidByText := true, laidKinds := [.data], laidTests := true, laidLooks := .later }
def CalMomentsCardSaid : Prop := Claim7.holds Tryd.pinned (.plain (OpenSpec.ofChange calMomentsSpec)) calMomentsCard

/-- THE TIED CARD OF 'tabularylaw04.CalRises'. -/
def calRisesCard : Claim7 := { stood := { row := calRisesRow, standIns := [], harness := (true, "b91ebcdce503558ee3eebdc8f77ed00e8ad788aa52bd3cf20abb8b454fe661a6"), looks := false }, kinds := [], alts := [], laidByText := true, laidKinds := [.data], laidTests := true, laidLooks := .later }
def CalRisesCardSaid : Prop := Claim7.holds Tryd.pinned (.plain (OpenSpec.ofChange calRisesSpec)) calRisesCard

/-- THE TIED CARD OF 'tabularylaw04.CalZones'. -/
def calZonesCard : Claim7 := { stood := { row := calZonesRow, standIns := [], harness := (true, "b91ebcdce503558ee3eebdc8f77ed00e8ad788aa52bd3cf20abb8b454fe661a6"), looks := false }, kinds := [], alts := [], laidByText := true, laidKinds := [.data], laidTests := true, laidLooks := .later }
def CalZonesCardSaid : Prop := Claim7.holds Tryd.pinned (.plain (OpenSpec.ofChange calZonesSpec)) calZonesCard

/-- THE SECOND FORM's CARD OF 'tabularylaw04.CalDays'. -/
def calDaysUptoCard : Claim7 := { stood := { row := calDaysUptoRow, standIns := [], harness := (true, "b91ebcdce503558ee3eebdc8f77ed00e8ad788aa52bd3cf20abb8b454fe661a6"), looks := false }, kinds := [], alts := [], laidByText := true, laidKinds := [.data], laidTests := true, laidLooks := .later }
def CalDaysUptoCardSaid : Prop := Claim7.holds Tryd.pinned (.plain (OpenSpec.upto calDaysSpec)) calDaysUptoCard

/-- THE SECOND FORM's CARD OF 'tabularylaw04.CalTexts'. -/
def calTextsUptoCard : Claim7 := { stood := { row := calTextsUptoRow, standIns := [], harness := (true, "b91ebcdce503558ee3eebdc8f77ed00e8ad788aa52bd3cf20abb8b454fe661a6"), looks := false }, kinds := [], alts := [], laidByText := true, laidKinds := [.data, .data, .data, .data], laidTests := true, laidLooks := .later }
def CalTextsUptoCardSaid : Prop := Claim7.holds Tryd.pinned (.plain (OpenSpec.upto calTextsSpec)) calTextsUptoCard

/-- THE SECOND FORM's CARD OF 'tabularylaw04.CalBack'. -/
def calBackUptoCard : Claim7 := { stood := { row := calBackUptoRow, standIns := [], harness := (true, "b91ebcdce503558ee3eebdc8f77ed00e8ad788aa52bd3cf20abb8b454fe661a6"), looks := false }, kinds := [], alts := [], laidByText := true, laidKinds := [.data, .data, .data, .data], laidTests := true, laidLooks := .later }
def CalBackUptoCardSaid : Prop := Claim7.holds Tryd.pinned (.plain (OpenSpec.upto calBackSpec)) calBackUptoCard

/-- THE SECOND FORM's CARD OF 'tabularylaw04.CalMoments'. -/
def calMomentsUptoCard : Claim7 := { stood := { row := calMomentsUptoRow, standIns := [], harness := (true, "b91ebcdce503558ee3eebdc8f77ed00e8ad788aa52bd3cf20abb8b454fe661a6"), looks := false }, kinds := [], alts := [], laidByText := true, laidKinds := [.data], laidTests := true, laidLooks := .later }
def CalMomentsUptoCardSaid : Prop := Claim7.holds Tryd.pinned (.plain (OpenSpec.upto calMomentsSpec)) calMomentsUptoCard

/-- THE SECOND FORM's CARD OF 'tabularylaw04.CalRises'. -/
def calRisesUptoCard : Claim7 := { stood := { row := calRisesUptoRow, standIns := [], harness := (true, "b91ebcdce503558ee3eebdc8f77ed00e8ad788aa52bd3cf20abb8b454fe661a6"), looks := false }, kinds := [], alts := [], laidByText := true, laidKinds := [.data], laidTests := true, laidLooks := .later }
def CalRisesUptoCardSaid : Prop := Claim7.holds Tryd.pinned (.plain (OpenSpec.upto calRisesSpec)) calRisesUptoCard

/-- THE SECOND FORM's CARD OF 'tabularylaw04.CalZones'. -/
def calZonesUptoCard : Claim7 := { stood := { row := calZonesUptoRow, standIns := [], harness := (true, "b91ebcdce503558ee3eebdc8f77ed00e8ad788aa52bd3cf20abb8b454fe661a6"), looks := false }, kinds := [], alts := [], laidByText := true, laidKinds := [.data], laidTests := true, laidLooks := .later }
def CalZonesUptoCardSaid : Prop := Claim7.holds Tryd.pinned (.plain (OpenSpec.upto calZonesSpec)) calZonesUptoCard
end Rows
end Go.Proofs.YtameffdjjcpbkaaDoor
