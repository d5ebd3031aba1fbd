/-
  DERIVED. GIVEN WITH THE SEED: THE CARDS: each row of YtegboefdolfdgaaGreatDoorRows.lean that lists a variable, with what it lists TIED to the program's text (the seventh form; the later family's looks); each row that meets fmt, with fmt's text TOLD by the authors' own Lean function (tested against real Go, not proved from fmt's source: count such statements apart). THE CARD IS WHAT COUNTS. Prove the row's statement (the work); the ties are given (YtegboefdolfdgaaGreatDoorTie.lean); close each card by the builder's one call (the guide's Derived/Test/ToyasCard.lean, 'card_holds'). Laid BY PROGRAM, IN A SANDBOX (cutbox-door.mjs). By AI agents, Wed Nov 11 2026. No macro, syntax, notation, axiom, sorry.
-/
import Derived.Test.YtegboefdolfdgaaGreatDoorRows
import GoSem.ClaimSeven
namespace Go.Proofs.YtegboefdolfdgaaGreatDoor
namespace Rows

/-- THE TIED CARD OF 'athanorlaw05.DecodeReads'. -/
def decodeReadsCard : Claim7 := { stood := { row := decodeReadsRow, standIns := [], harness := (true, "24b1b8c62ef84b272c7b3c894d2799d0caa3cf577a4e1b855e85563f09e4f615"), looks := true }, kinds := [], alts := [], laidByText := true, laidKinds := [.data, .pinned], laidTests := true, laidLooks := .later }
def DecodeReadsCardSaid : Prop := Claim7.holds Tryz.pinned (.plain (OpenSpec.ofChange decodeReadsSpec)) decodeReadsCard

/-- THE TIED CARD OF 'athanorlaw05.DecodeMost'. -/
def decodeMostCard : Claim7 := { stood := { row := decodeMostRow, standIns := [], harness := (true, "24b1b8c62ef84b272c7b3c894d2799d0caa3cf577a4e1b855e85563f09e4f615"), looks := true }, kinds := [], alts := [], laidByText := true, laidKinds := [.data, .pinned], laidTests := true, laidLooks := .later }
def DecodeMostCardSaid : Prop := Claim7.holds Tryz.pinned (.plain (OpenSpec.ofChange decodeMostSpec)) decodeMostCard

/-- THE SECOND FORM's CARD OF 'athanorlaw05.DecodeReads'. -/
def decodeReadsUptoCard : Claim7 := { stood := { row := decodeReadsUptoRow, standIns := [], harness := (true, "24b1b8c62ef84b272c7b3c894d2799d0caa3cf577a4e1b855e85563f09e4f615"), looks := true }, kinds := [], alts := [], laidByText := true, laidKinds := [.data, .pinned], laidTests := true, laidLooks := .later }
def DecodeReadsUptoCardSaid : Prop := Claim7.holds Tryz.pinned (.plain (OpenSpec.upto decodeReadsSpec)) decodeReadsUptoCard

/-- THE SECOND FORM's CARD OF 'athanorlaw05.DecodeMost'. -/
def decodeMostUptoCard : Claim7 := { stood := { row := decodeMostUptoRow, standIns := [], harness := (true, "24b1b8c62ef84b272c7b3c894d2799d0caa3cf577a4e1b855e85563f09e4f615"), looks := true }, kinds := [], alts := [], laidByText := true, laidKinds := [.data, .pinned], laidTests := true, laidLooks := .later }
def DecodeMostUptoCardSaid : Prop := Claim7.holds Tryz.pinned (.plain (OpenSpec.upto decodeMostSpec)) decodeMostUptoCard
end Rows
end Go.Proofs.YtegboefdolfdgaaGreatDoor
