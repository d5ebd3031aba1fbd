/-
  DERIVED. GIVEN WITH THE SEED: THE CARDS: each row of YtkdbgopgjbfhbaaGreatDoorRows.lean that lists a variable, with what it lists TIED to the program's text (the seventh form; the later family's looks); each row that meets fmt, with fmt's text TOLD by the authors' own Lean function (tested against real Go, not proved from fmt's source: count such statements apart). THE CARD IS WHAT COUNTS. Prove the row's statement (the work); the ties are given (YtkdbgopgjbfhbaaGreatDoorTie.lean); close each card by the builder's one call (the guide's Derived/Test/ToyasCard.lean, 'card_holds'). Laid BY PROGRAM, IN A SANDBOX (cutbox-door.mjs). By AI agents, Wed Nov 11 2026. No macro, syntax, notation, axiom, sorry.
-/
import Derived.Test.YtkdbgopgjbfhbaaGreatDoorRows
import GoSem.ClaimSeven
namespace Go.Proofs.YtkdbgopgjbfhbaaGreatDoor
namespace Rows

/-- THE TIED CARD OF 'athanorlaw12.ParseReads'. -/
def parseReadsCard : Claim7 := { stood := { row := parseReadsRow, standIns := [], harness := (true, "27b355196da109dea94f8251fc7382354ca15f0d3cd800ca28c130a95dd96061"), looks := true }, kinds := [], alts := [], laidByText := true, laidKinds := [.data, .data], laidTests := true, laidLooks := .later }
def ParseReadsCardSaid : Prop := Claim7.holds Tryz.pinned (.plain (OpenSpec.ofChange parseReadsSpec)) parseReadsCard

/-- THE TIED CARD OF 'athanorlaw12.ParseChecks'. -/
def parseChecksCard : Claim7 := { stood := { row := parseChecksRow, standIns := [], harness := (true, "27b355196da109dea94f8251fc7382354ca15f0d3cd800ca28c130a95dd96061"), looks := true }, kinds := [], alts := [], laidByText := true, laidKinds := [.data, .data, .data, .data, .data, .data, .data, .wider, .wider, .data, .pinned], laidTests := true, laidLooks := .later }
def ParseChecksCardSaid : Prop := Claim7.holds Tryz.pinned (.plain (OpenSpec.ofChange parseChecksSpec)) parseChecksCard

/-- THE TIED CARD OF 'athanorlaw12.ParseSame'. -/
def parseSameCard : Claim7 := { stood := { row := parseSameRow, standIns := [], harness := (true, "27b355196da109dea94f8251fc7382354ca15f0d3cd800ca28c130a95dd96061"), looks := true }, kinds := [], alts := [], laidByText := true, laidKinds := [.data, .data], laidTests := true, laidLooks := .later }
def ParseSameCardSaid : Prop := Claim7.holds Tryz.pinned (.plain (OpenSpec.ofChange parseSameSpec)) parseSameCard

/-- THE TIED CARD OF 'athanorlaw12.ParseTakes'. -/
def parseTakesCard : Claim7 := { stood := { row := parseTakesRow, standIns := [], harness := (true, "27b355196da109dea94f8251fc7382354ca15f0d3cd800ca28c130a95dd96061"), looks := true }, kinds := [], alts := [], laidByText := true, laidKinds := [.data, .data, .data, .data, .data, .data, .data, .wider, .wider, .data, .pinned], laidTests := true, laidLooks := .later }
def ParseTakesCardSaid : Prop := Claim7.holds Tryz.pinned (.plain (OpenSpec.ofChange parseTakesSpec)) parseTakesCard

/-- THE TIED CARD OF 'athanorlaw12.ParseBrackets'. -/
def parseBracketsCard : Claim7 := { stood := { row := parseBracketsRow, standIns := [], harness := (true, "27b355196da109dea94f8251fc7382354ca15f0d3cd800ca28c130a95dd96061"), looks := true }, kinds := [], alts := [], laidByText := true, laidKinds := [.data, .data], laidTests := true, laidLooks := .later }
def ParseBracketsCardSaid : Prop := Claim7.holds Tryz.pinned (.plain (OpenSpec.ofChange parseBracketsSpec)) parseBracketsCard

/-- THE TIED CARD OF 'athanorlaw12.ParseSpread'. -/
def parseSpreadCard : Claim7 := { stood := { row := parseSpreadRow, standIns := [], harness := (true, "27b355196da109dea94f8251fc7382354ca15f0d3cd800ca28c130a95dd96061"), looks := true }, kinds := [], alts := [], laidByText := true, laidKinds := [.data, .data], laidTests := true, laidLooks := .later }
def ParseSpreadCardSaid : Prop := Claim7.holds Tryz.pinned (.plain (OpenSpec.ofChange parseSpreadSpec)) parseSpreadCard

/-- THE SECOND FORM's CARD OF 'athanorlaw12.ParseReads'. -/
def parseReadsUptoCard : Claim7 := { stood := { row := parseReadsUptoRow, standIns := [], harness := (true, "27b355196da109dea94f8251fc7382354ca15f0d3cd800ca28c130a95dd96061"), looks := true }, kinds := [], alts := [], laidByText := true, laidKinds := [.data, .data], laidTests := true, laidLooks := .later }
def ParseReadsUptoCardSaid : Prop := Claim7.holds Tryz.pinned (.plain (OpenSpec.upto parseReadsSpec)) parseReadsUptoCard

/-- THE SECOND FORM's CARD OF 'athanorlaw12.ParseChecks'. -/
def parseChecksUptoCard : Claim7 := { stood := { row := parseChecksUptoRow, standIns := [], harness := (true, "27b355196da109dea94f8251fc7382354ca15f0d3cd800ca28c130a95dd96061"), looks := true }, kinds := [], alts := [], laidByText := true, laidKinds := [.data, .data, .data, .data, .data, .data, .data, .wider, .wider, .data, .pinned], laidTests := true, laidLooks := .later }
def ParseChecksUptoCardSaid : Prop := Claim7.holds Tryz.pinned (.plain (OpenSpec.upto parseChecksSpec)) parseChecksUptoCard

/-- THE SECOND FORM's CARD OF 'athanorlaw12.ParseSame'. -/
def parseSameUptoCard : Claim7 := { stood := { row := parseSameUptoRow, standIns := [], harness := (true, "27b355196da109dea94f8251fc7382354ca15f0d3cd800ca28c130a95dd96061"), looks := true }, kinds := [], alts := [], laidByText := true, laidKinds := [.data, .data], laidTests := true, laidLooks := .later }
def ParseSameUptoCardSaid : Prop := Claim7.holds Tryz.pinned (.plain (OpenSpec.upto parseSameSpec)) parseSameUptoCard

/-- THE SECOND FORM's CARD OF 'athanorlaw12.ParseTakes'. -/
def parseTakesUptoCard : Claim7 := { stood := { row := parseTakesUptoRow, standIns := [], harness := (true, "27b355196da109dea94f8251fc7382354ca15f0d3cd800ca28c130a95dd96061"), looks := true }, kinds := [], alts := [], laidByText := true, laidKinds := [.data, .data, .data, .data, .data, .data, .data, .wider, .wider, .data, .pinned], laidTests := true, laidLooks := .later }
def ParseTakesUptoCardSaid : Prop := Claim7.holds Tryz.pinned (.plain (OpenSpec.upto parseTakesSpec)) parseTakesUptoCard

/-- THE SECOND FORM's CARD OF 'athanorlaw12.ParseBrackets'. -/
def parseBracketsUptoCard : Claim7 := { stood := { row := parseBracketsUptoRow, standIns := [], harness := (true, "27b355196da109dea94f8251fc7382354ca15f0d3cd800ca28c130a95dd96061"), looks := true }, kinds := [], alts := [], laidByText := true, laidKinds := [.data, .data], laidTests := true, laidLooks := .later }
def ParseBracketsUptoCardSaid : Prop := Claim7.holds Tryz.pinned (.plain (OpenSpec.upto parseBracketsSpec)) parseBracketsUptoCard

/-- THE SECOND FORM's CARD OF 'athanorlaw12.ParseSpread'. -/
def parseSpreadUptoCard : Claim7 := { stood := { row := parseSpreadUptoRow, standIns := [], harness := (true, "27b355196da109dea94f8251fc7382354ca15f0d3cd800ca28c130a95dd96061"), looks := true }, kinds := [], alts := [], laidByText := true, laidKinds := [.data, .data], laidTests := true, laidLooks := .later }
def ParseSpreadUptoCardSaid : Prop := Claim7.holds Tryz.pinned (.plain (OpenSpec.upto parseSpreadSpec)) parseSpreadUptoCard
end Rows
end Go.Proofs.YtkdbgopgjbfhbaaGreatDoor
