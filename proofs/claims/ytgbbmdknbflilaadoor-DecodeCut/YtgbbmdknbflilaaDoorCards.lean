/-
  DERIVED. GIVEN WITH THE SEED: THE CARDS: each row of YtgbbmdknbflilaaDoorRows.lean that lists a variable, with what it lists TIED to the program's text (the seventh form; the later family's looks); each row that meets fmt, with fmt's text TOLD by the authors' own Lean function (tested against real Go, not proved from fmt's source: count such statements apart). THE CARD IS WHAT COUNTS. Prove the row's statement (the work); the ties are given (YtgbbmdknbflilaaDoorTie.lean); close each card by the builder's one call (the guide's Derived/Test/ToyasCard.lean, 'card_holds'). Laid BY PROGRAM, IN A SANDBOX (cutbox-door.mjs). By AI agents, Wed Nov 11 2026. No macro, syntax, notation, axiom, sorry.
-/
import Derived.Test.YtgbbmdknbflilaaDoorRows
import GoSem.ClaimSeven
namespace Go.Proofs.YtgbbmdknbflilaaDoor
namespace Rows

/-- THE TIED CARD OF 'athanorlaw05.DecodeCut'. -/
def decodeCutCard : Claim7 := { stood := { row := decodeCutRow, standIns := [], harness := (true, "68b55448e12bb5f4ad4b371ad34c995766acaf432f2f68ce58ea24ee614cf5bb"), looks := true }, kinds := [], alts := [], laidByText := true, laidKinds := [.data, .pinned], laidTests := true, laidLooks := .later }
def DecodeCutCardSaid : Prop := Claim7.holds Tryd.pinned (.plain (OpenSpec.ofChange decodeCutSpec)) decodeCutCard

/-- THE SECOND FORM's CARD OF 'athanorlaw05.DecodeCut'. -/
def decodeCutUptoCard : Claim7 := { stood := { row := decodeCutUptoRow, standIns := [], harness := (true, "68b55448e12bb5f4ad4b371ad34c995766acaf432f2f68ce58ea24ee614cf5bb"), looks := true }, kinds := [], alts := [], laidByText := true, laidKinds := [.data, .pinned], laidTests := true, laidLooks := .later }
def DecodeCutUptoCardSaid : Prop := Claim7.holds Tryd.pinned (.plain (OpenSpec.upto decodeCutSpec)) decodeCutUptoCard
end Rows
end Go.Proofs.YtgbbmdknbflilaaDoor
