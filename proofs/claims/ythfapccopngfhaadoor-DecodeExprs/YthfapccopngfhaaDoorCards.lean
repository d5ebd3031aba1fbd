/-
  DERIVED. GIVEN WITH THE SEED: THE CARDS: each row of YthfapccopngfhaaDoorRows.lean that lists a variable, with what it lists TIED to the program's text (the seventh form; the later family's looks); each row that meets fmt, with fmt's text TOLD by the authors' own Lean function (tested against real Go, not proved from fmt's source: count such statements apart). THE CARD IS WHAT COUNTS. Prove the row's statement (the work); the ties are given (YthfapccopngfhaaDoorTie.lean); close each card by the builder's one call (the guide's Derived/Test/ToyasCard.lean, 'card_holds'). Laid BY PROGRAM, IN A SANDBOX (cutbox-door.mjs). By AI agents, Wed Nov 11 2026. No macro, syntax, notation, axiom, sorry.
-/
import Derived.Test.YthfapccopngfhaaDoorRows
import GoSem.ClaimSeven
namespace Go.Proofs.YthfapccopngfhaaDoor
namespace Rows

/-- THE TIED CARD OF 'athanorlaw05.DecodeExprs'. -/
def decodeExprsCard : Claim7 := { stood := { row := decodeExprsRow, standIns := [], harness := (true, "e1cf5ced65aa4e9197a4befb7e58dec2c1e0138f18a0f3fe6976d4be4e6de0ae"), looks := true }, kinds := [], alts := [], laidByText := true, laidKinds := [.data, .pinned], laidTests := true, laidLooks := .later }
def DecodeExprsCardSaid : Prop := Claim7.holds Tryd.pinned (.plain (OpenSpec.ofChange decodeExprsSpec)) decodeExprsCard

/-- THE SECOND FORM's CARD OF 'athanorlaw05.DecodeExprs'. -/
def decodeExprsUptoCard : Claim7 := { stood := { row := decodeExprsUptoRow, standIns := [], harness := (true, "e1cf5ced65aa4e9197a4befb7e58dec2c1e0138f18a0f3fe6976d4be4e6de0ae"), looks := true }, kinds := [], alts := [], laidByText := true, laidKinds := [.data, .pinned], laidTests := true, laidLooks := .later }
def DecodeExprsUptoCardSaid : Prop := Claim7.holds Tryd.pinned (.plain (OpenSpec.upto decodeExprsSpec)) decodeExprsUptoCard
end Rows
end Go.Proofs.YthfapccopngfhaaDoor
