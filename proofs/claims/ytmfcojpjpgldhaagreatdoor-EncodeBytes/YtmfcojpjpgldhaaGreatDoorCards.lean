/-
  DERIVED. GIVEN WITH THE SEED: THE CARDS: each row of YtmfcojpjpgldhaaGreatDoorRows.lean that lists a variable, with what it lists TIED to the program's text (the seventh form; the later family's looks); each row that meets fmt, with fmt's text TOLD by the authors' own Lean function (tested against real Go, not proved from fmt's source: count such statements apart). THE CARD IS WHAT COUNTS. Prove the row's statement (the work); the ties are given (YtmfcojpjpgldhaaGreatDoorTie.lean); close each card by the builder's one call (the guide's Derived/Test/ToyasCard.lean, 'card_holds'). Laid BY PROGRAM, IN A SANDBOX (cutbox-door.mjs). By AI agents, Wed Nov 11 2026. No macro, syntax, notation, axiom, sorry.
-/
import Derived.Test.YtmfcojpjpgldhaaGreatDoorRows
import GoSem.ClaimSeven
namespace Go.Proofs.YtmfcojpjpgldhaaGreatDoor
namespace Rows

/-- THE TIED CARD OF 'athanorlaw04.EncodeBytes'. -/
def encodeBytesCard : Claim7 := { stood := { row := encodeBytesRow, standIns := [], harness := (true, "ce177f361f6c0371f905572915fdf9a8700dfc8478f446ce6781154df0b9317c"), looks := true }, kinds := [], alts := [], laidByText := true, laidKinds := [.data, .pinned], laidTests := true, laidLooks := .later }
def EncodeBytesCardSaid : Prop := Claim7.holds Tryz.pinned (.plain (OpenSpec.ofChange encodeBytesSpec)) encodeBytesCard

/-- THE SECOND FORM's CARD OF 'athanorlaw04.EncodeBytes'. -/
def encodeBytesUptoCard : Claim7 := { stood := { row := encodeBytesUptoRow, standIns := [], harness := (true, "ce177f361f6c0371f905572915fdf9a8700dfc8478f446ce6781154df0b9317c"), looks := true }, kinds := [], alts := [], laidByText := true, laidKinds := [.data, .pinned], laidTests := true, laidLooks := .later }
def EncodeBytesUptoCardSaid : Prop := Claim7.holds Tryz.pinned (.plain (OpenSpec.upto encodeBytesSpec)) encodeBytesUptoCard
end Rows
end Go.Proofs.YtmfcojpjpgldhaaGreatDoor
