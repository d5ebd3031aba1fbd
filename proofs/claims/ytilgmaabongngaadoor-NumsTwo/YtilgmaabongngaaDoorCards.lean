/-
  DERIVED. GIVEN WITH THE SEED: THE CARDS: each row of YtilgmaabongngaaDoorRows.lean that lists a variable, with what it lists TIED to the program's text (the seventh form; the later family's looks); each row that meets fmt, with fmt's text TOLD by the authors' own Lean function (tested against real Go, not proved from fmt's source: count such statements apart). THE CARD IS WHAT COUNTS. Prove the row's statement (the work); the ties are given (YtilgmaabongngaaDoorTie.lean); close each card by the builder's one call (the guide's Derived/Test/ToyasCard.lean, 'card_holds'). Laid BY PROGRAM, IN A SANDBOX (cutbox-door.mjs). By AI agents, Wed Nov 11 2026. No macro, syntax, notation, axiom, sorry.
-/
import Derived.Test.YtilgmaabongngaaDoorRows
import GoSem.ClaimSeven
namespace Go.Proofs.YtilgmaabongngaaDoor
namespace Rows

/-- THE TIED CARD OF 'athanorlaw02.NumsOne'. -/
def numsOneCard : Claim7 := { stood := { row := numsOneRow, standIns := [], harness := (true, "086a4450219fd2d8797b5b33e02f2496f154707ac4c571c517293dfbad8860d4"), looks := false }, kinds := [], alts := [], laidByText := true, laidKinds := [.data], laidTests := true, laidLooks := .later }
def NumsOneCardSaid : Prop := Claim7.holds Tryd.pinned (.plain (OpenSpec.ofChange numsOneSpec)) numsOneCard

/-- THE TIED CARD OF 'athanorlaw02.NumsTwo'. -/
def numsTwoCard : Claim7 := { stood := { row := numsTwoRow, standIns := [], harness := (true, "086a4450219fd2d8797b5b33e02f2496f154707ac4c571c517293dfbad8860d4"), looks := false }, kinds := [], alts := [], laidByText := true, laidKinds := [.data], laidTests := true, laidLooks := .later }
def NumsTwoCardSaid : Prop := Claim7.holds Tryd.pinned (.plain (OpenSpec.ofChange numsTwoSpec)) numsTwoCard

/-- THE TIED CARD OF 'athanorlaw02.NumsSigned'. -/
def numsSignedCard : Claim7 := { stood := { row := numsSignedRow, standIns := [], harness := (true, "086a4450219fd2d8797b5b33e02f2496f154707ac4c571c517293dfbad8860d4"), looks := false }, kinds := [], alts := [], laidByText := true, laidKinds := [.data], laidTests := true, laidLooks := .later }
def NumsSignedCardSaid : Prop := Claim7.holds Tryd.pinned (.plain (OpenSpec.ofChange numsSignedSpec)) numsSignedCard

/-- THE TIED CARD OF 'athanorlaw02.NumsQuotients'. -/
def numsQuotientsCard : Claim7 := { stood := { row := numsQuotientsRow, standIns := [], harness := (true, "086a4450219fd2d8797b5b33e02f2496f154707ac4c571c517293dfbad8860d4"), looks := false }, kinds := [], alts := [], laidByText := true, laidKinds := [.data], laidTests := true, laidLooks := .later }
def NumsQuotientsCardSaid : Prop := Claim7.holds Tryd.pinned (.plain (OpenSpec.ofChange numsQuotientsSpec)) numsQuotientsCard

/-- THE TIED CARD OF 'athanorlaw02.NumsTurns'. -/
def numsTurnsCard : Claim7 := { stood := { row := numsTurnsRow, standIns := [], harness := (true, "086a4450219fd2d8797b5b33e02f2496f154707ac4c571c517293dfbad8860d4"), looks := false }, kinds := [], alts := [], laidByText := true, laidKinds := [.data], laidTests := true, laidLooks := .later }
def NumsTurnsCardSaid : Prop := Claim7.holds Tryd.pinned (.plain (OpenSpec.ofChange numsTurnsSpec)) numsTurnsCard

/-- THE SECOND FORM's CARD OF 'athanorlaw02.NumsOne'. -/
def numsOneUptoCard : Claim7 := { stood := { row := numsOneUptoRow, standIns := [], harness := (true, "086a4450219fd2d8797b5b33e02f2496f154707ac4c571c517293dfbad8860d4"), looks := false }, kinds := [], alts := [], laidByText := true, laidKinds := [.data], laidTests := true, laidLooks := .later }
def NumsOneUptoCardSaid : Prop := Claim7.holds Tryd.pinned (.plain (OpenSpec.upto numsOneSpec)) numsOneUptoCard

/-- THE SECOND FORM's CARD OF 'athanorlaw02.NumsTwo'. -/
def numsTwoUptoCard : Claim7 := { stood := { row := numsTwoUptoRow, standIns := [], harness := (true, "086a4450219fd2d8797b5b33e02f2496f154707ac4c571c517293dfbad8860d4"), looks := false }, kinds := [], alts := [], laidByText := true, laidKinds := [.data], laidTests := true, laidLooks := .later }
def NumsTwoUptoCardSaid : Prop := Claim7.holds Tryd.pinned (.plain (OpenSpec.upto numsTwoSpec)) numsTwoUptoCard

/-- THE SECOND FORM's CARD OF 'athanorlaw02.NumsSigned'. -/
def numsSignedUptoCard : Claim7 := { stood := { row := numsSignedUptoRow, standIns := [], harness := (true, "086a4450219fd2d8797b5b33e02f2496f154707ac4c571c517293dfbad8860d4"), looks := false }, kinds := [], alts := [], laidByText := true, laidKinds := [.data], laidTests := true, laidLooks := .later }
def NumsSignedUptoCardSaid : Prop := Claim7.holds Tryd.pinned (.plain (OpenSpec.upto numsSignedSpec)) numsSignedUptoCard

/-- THE SECOND FORM's CARD OF 'athanorlaw02.NumsQuotients'. -/
def numsQuotientsUptoCard : Claim7 := { stood := { row := numsQuotientsUptoRow, standIns := [], harness := (true, "086a4450219fd2d8797b5b33e02f2496f154707ac4c571c517293dfbad8860d4"), looks := false }, kinds := [], alts := [], laidByText := true, laidKinds := [.data], laidTests := true, laidLooks := .later }
def NumsQuotientsUptoCardSaid : Prop := Claim7.holds Tryd.pinned (.plain (OpenSpec.upto numsQuotientsSpec)) numsQuotientsUptoCard

/-- THE SECOND FORM's CARD OF 'athanorlaw02.NumsTurns'. -/
def numsTurnsUptoCard : Claim7 := { stood := { row := numsTurnsUptoRow, standIns := [], harness := (true, "086a4450219fd2d8797b5b33e02f2496f154707ac4c571c517293dfbad8860d4"), looks := false }, kinds := [], alts := [], laidByText := true, laidKinds := [.data], laidTests := true, laidLooks := .later }
def NumsTurnsUptoCardSaid : Prop := Claim7.holds Tryd.pinned (.plain (OpenSpec.upto numsTurnsSpec)) numsTurnsUptoCard
end Rows
end Go.Proofs.YtilgmaabongngaaDoor
