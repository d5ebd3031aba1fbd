/-
  DERIVED. GIVEN WITH THE SEED: THE CARDS: each row of YtppjjbpiefkjlaaDoorRows.lean that lists a variable, with what it lists TIED to the program's text (the seventh form; the later family's looks); each row that meets fmt, with fmt's text TOLD by the authors' own Lean function (tested against real Go, not proved from fmt's source: count such statements apart). THE CARD IS WHAT COUNTS. Prove the row's statement (the work); the ties are given (YtppjjbpiefkjlaaDoorTie.lean); close each card by the builder's one call (the guide's Derived/Test/ToyasCard.lean, 'card_holds'). Laid BY PROGRAM, IN A SANDBOX (cutbox-door.mjs). By AI agents, Wed Nov 11 2026. No macro, syntax, notation, axiom, sorry.
-/
import Derived.Test.YtppjjbpiefkjlaaDoorRows
import GoSem.ClaimSeven
namespace Go.Proofs.YtppjjbpiefkjlaaDoor
namespace Rows

/-- THE TIED CARD OF 'athanorlaw11.LexReads'. -/
def lexReadsCard : Claim7 := { stood := { row := lexReadsRow, standIns := [], harness := (true, "dc7f24624af4ab6d0dee337d5ace4123ec0db62b0e98b3f39ad7bb279eadf808"), looks := false }, kinds := [], alts := [], laidByText := true, laidKinds := [.data, .data], laidTests := true, laidLooks := .later }
def LexReadsCardSaid : Prop := Claim7.holds Tryd.pinned (.plain (OpenSpec.ofChange lexReadsSpec)) lexReadsCard

/-- THE TIED CARD OF 'athanorlaw11.LexJoins'. -/
def lexJoinsCard : Claim7 := { stood := { row := lexJoinsRow, standIns := [], harness := (true, "dc7f24624af4ab6d0dee337d5ace4123ec0db62b0e98b3f39ad7bb279eadf808"), looks := false }, kinds := [], alts := [], laidByText := true, laidKinds := [.data, .data], laidTests := true, laidLooks := .later }
def LexJoinsCardSaid : Prop := Claim7.holds Tryd.pinned (.plain (OpenSpec.ofChange lexJoinsSpec)) lexJoinsCard

/-- THE TIED CARD OF 'athanorlaw11.LexMost'. -/
def lexMostCard : Claim7 := { stood := { row := lexMostRow, standIns := [], harness := (true, "dc7f24624af4ab6d0dee337d5ace4123ec0db62b0e98b3f39ad7bb279eadf808"), looks := false }, kinds := [], alts := [], laidByText := true, laidKinds := [.data, .data], laidTests := true, laidLooks := .later }
def LexMostCardSaid : Prop := Claim7.holds Tryd.pinned (.plain (OpenSpec.ofChange lexMostSpec)) lexMostCard

/-- THE SECOND FORM's CARD OF 'athanorlaw11.LexReads'. -/
def lexReadsUptoCard : Claim7 := { stood := { row := lexReadsUptoRow, standIns := [], harness := (true, "dc7f24624af4ab6d0dee337d5ace4123ec0db62b0e98b3f39ad7bb279eadf808"), looks := false }, kinds := [], alts := [], laidByText := true, laidKinds := [.data, .data], laidTests := true, laidLooks := .later }
def LexReadsUptoCardSaid : Prop := Claim7.holds Tryd.pinned (.plain (OpenSpec.upto lexReadsSpec)) lexReadsUptoCard

/-- THE SECOND FORM's CARD OF 'athanorlaw11.LexJoins'. -/
def lexJoinsUptoCard : Claim7 := { stood := { row := lexJoinsUptoRow, standIns := [], harness := (true, "dc7f24624af4ab6d0dee337d5ace4123ec0db62b0e98b3f39ad7bb279eadf808"), looks := false }, kinds := [], alts := [], laidByText := true, laidKinds := [.data, .data], laidTests := true, laidLooks := .later }
def LexJoinsUptoCardSaid : Prop := Claim7.holds Tryd.pinned (.plain (OpenSpec.upto lexJoinsSpec)) lexJoinsUptoCard

/-- THE SECOND FORM's CARD OF 'athanorlaw11.LexMost'. -/
def lexMostUptoCard : Claim7 := { stood := { row := lexMostUptoRow, standIns := [], harness := (true, "dc7f24624af4ab6d0dee337d5ace4123ec0db62b0e98b3f39ad7bb279eadf808"), looks := false }, kinds := [], alts := [], laidByText := true, laidKinds := [.data, .data], laidTests := true, laidLooks := .later }
def LexMostUptoCardSaid : Prop := Claim7.holds Tryd.pinned (.plain (OpenSpec.upto lexMostSpec)) lexMostUptoCard
end Rows
end Go.Proofs.YtppjjbpiefkjlaaDoor
