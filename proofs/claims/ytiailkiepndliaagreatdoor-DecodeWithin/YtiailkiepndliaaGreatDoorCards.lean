/-
  DERIVED. GIVEN WITH THE SEED: THE CARDS: each row of YtiailkiepndliaaGreatDoorRows.lean that lists a variable, with what it lists TIED to the program's text (the seventh form; the later family's looks); each row that meets fmt, with fmt's text TOLD by the authors' own Lean function (tested against real Go, not proved from fmt's source: count such statements apart). THE CARD IS WHAT COUNTS. Prove the row's statement (the work); the ties are given (YtiailkiepndliaaGreatDoorTie.lean); close each card by the builder's one call (the guide's Derived/Test/ToyasCard.lean, 'card_holds'). Laid BY PROGRAM, IN A SANDBOX (cutbox-door.mjs). By AI agents, Wed Nov 11 2026. No macro, syntax, notation, axiom, sorry.
-/
import Derived.Test.YtiailkiepndliaaGreatDoorRows
import GoSem.ClaimSeven
namespace Go.Proofs.YtiailkiepndliaaGreatDoor
namespace Rows

/-- THE TIED CARD OF 'athanorlaw05.DecodeWithin'. -/
def decodeWithinCard : Claim7 := { stood := { row := decodeWithinRow, standIns := [], harness := (true, "05beed90fe2e20fb526efe7c9a0a685aca6e233474a2f74ce545de123b5f0de9"), looks := true }, kinds := [], alts := [], laidByText := true, laidKinds := [.data, .pinned], laidTests := true, laidLooks := .later }
def DecodeWithinCardSaid : Prop := Claim7.holds Tryz.pinned (.plain (OpenSpec.ofChange decodeWithinSpec)) decodeWithinCard

/-- THE SECOND FORM's CARD OF 'athanorlaw05.DecodeWithin'. -/
def decodeWithinUptoCard : Claim7 := { stood := { row := decodeWithinUptoRow, standIns := [], harness := (true, "05beed90fe2e20fb526efe7c9a0a685aca6e233474a2f74ce545de123b5f0de9"), looks := true }, kinds := [], alts := [], laidByText := true, laidKinds := [.data, .pinned], laidTests := true, laidLooks := .later }
def DecodeWithinUptoCardSaid : Prop := Claim7.holds Tryz.pinned (.plain (OpenSpec.upto decodeWithinSpec)) decodeWithinUptoCard
end Rows
end Go.Proofs.YtiailkiepndliaaGreatDoor
