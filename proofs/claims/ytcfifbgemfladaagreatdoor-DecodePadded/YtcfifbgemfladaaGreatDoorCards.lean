/-
  DERIVED. GIVEN WITH THE SEED: THE CARDS: each row of YtcfifbgemfladaaGreatDoorRows.lean that lists a variable, with what it lists TIED to the program's text (the seventh form; the later family's looks); each row that meets fmt, with fmt's text TOLD by the authors' own Lean function (tested against real Go, not proved from fmt's source: count such statements apart). THE CARD IS WHAT COUNTS. Prove the row's statement (the work); the ties are given (YtcfifbgemfladaaGreatDoorTie.lean); close each card by the builder's one call (the guide's Derived/Test/ToyasCard.lean, 'card_holds'). Laid BY PROGRAM, IN A SANDBOX (cutbox-door.mjs). By AI agents, Wed Nov 11 2026. No macro, syntax, notation, axiom, sorry.
-/
import Derived.Test.YtcfifbgemfladaaGreatDoorRows
import GoSem.ClaimSeven
namespace Go.Proofs.YtcfifbgemfladaaGreatDoor
namespace Rows

/-- THE TIED CARD OF 'athanorlaw05.DecodeCustom'. -/
def decodeCustomCard : Claim7 := { stood := { row := decodeCustomRow, standIns := [], harness := (true, "5f8cddcd44df54ea228fa04e5d3baa356fd3f4d9b502a6af478ae97b4b53a241"), looks := true }, kinds := [], alts := [], laidByText := true, laidKinds := [.data, .pinned], laidTests := true, laidLooks := .later }
def DecodeCustomCardSaid : Prop := Claim7.holds Tryz.pinned (.plain (OpenSpec.ofChange decodeCustomSpec)) decodeCustomCard

/-- THE TIED CARD OF 'athanorlaw05.DecodePadded'. -/
def decodePaddedCard : Claim7 := { stood := { row := decodePaddedRow, standIns := [], harness := (true, "5f8cddcd44df54ea228fa04e5d3baa356fd3f4d9b502a6af478ae97b4b53a241"), looks := true }, kinds := [], alts := [], laidByText := true, laidKinds := [.data, .pinned], laidTests := true, laidLooks := .later }
def DecodePaddedCardSaid : Prop := Claim7.holds Tryz.pinned (.plain (OpenSpec.ofChange decodePaddedSpec)) decodePaddedCard

/-- THE SECOND FORM's CARD OF 'athanorlaw05.DecodeCustom'. -/
def decodeCustomUptoCard : Claim7 := { stood := { row := decodeCustomUptoRow, standIns := [], harness := (true, "5f8cddcd44df54ea228fa04e5d3baa356fd3f4d9b502a6af478ae97b4b53a241"), looks := true }, kinds := [], alts := [], laidByText := true, laidKinds := [.data, .pinned], laidTests := true, laidLooks := .later }
def DecodeCustomUptoCardSaid : Prop := Claim7.holds Tryz.pinned (.plain (OpenSpec.upto decodeCustomSpec)) decodeCustomUptoCard

/-- THE SECOND FORM's CARD OF 'athanorlaw05.DecodePadded'. -/
def decodePaddedUptoCard : Claim7 := { stood := { row := decodePaddedUptoRow, standIns := [], harness := (true, "5f8cddcd44df54ea228fa04e5d3baa356fd3f4d9b502a6af478ae97b4b53a241"), looks := true }, kinds := [], alts := [], laidByText := true, laidKinds := [.data, .pinned], laidTests := true, laidLooks := .later }
def DecodePaddedUptoCardSaid : Prop := Claim7.holds Tryz.pinned (.plain (OpenSpec.upto decodePaddedSpec)) decodePaddedUptoCard
end Rows
end Go.Proofs.YtcfifbgemfladaaGreatDoor
