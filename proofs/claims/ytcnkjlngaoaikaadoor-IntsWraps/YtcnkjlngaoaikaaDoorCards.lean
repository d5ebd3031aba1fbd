/-
  DERIVED. GIVEN WITH THE SEED: THE CARDS: each row of YtcnkjlngaoaikaaDoorRows.lean that lists a variable, with what it lists TIED to the program's text (the seventh form; the later family's looks); each row that meets fmt, with fmt's text TOLD by the authors' own Lean function (tested against real Go, not proved from fmt's source: count such statements apart). THE CARD IS WHAT COUNTS. Prove the row's statement (the work); the ties are given (YtcnkjlngaoaikaaDoorTie.lean); close each card by the builder's one call (the guide's Derived/Test/ToyasCard.lean, 'card_holds'). Laid BY PROGRAM, IN A SANDBOX (cutbox-door.mjs). By AI agents, Wed Nov 11 2026. No macro, syntax, notation, axiom, sorry.
-/
import Derived.Test.YtcnkjlngaoaikaaDoorRows
import GoSem.ClaimSeven
namespace Go.Proofs.YtcnkjlngaoaikaaDoor
namespace Rows

/-- THE TIED CARD OF 'athanorlaw10.IntsWraps'. -/
def intsWrapsCard : Claim7 := { stood := { row := intsWrapsRow, standIns := [], harness := (true, "406c127ab4bd0e3ef1954ec3d7e27644225ab21caa8bc54a406bfeb86bee0826"), looks := false }, kinds := [], alts := [], laidByText := true, laidKinds := [.data], laidTests := true, laidLooks := .later }
def IntsWrapsCardSaid : Prop := Claim7.holds Tryd.pinned (.plain (OpenSpec.ofChange intsWrapsSpec)) intsWrapsCard

/-- THE TIED CARD OF 'athanorlaw10.IntsDoes'. -/
def intsDoesCard : Claim7 := { stood := { row := intsDoesRow, standIns := [], harness := (true, "406c127ab4bd0e3ef1954ec3d7e27644225ab21caa8bc54a406bfeb86bee0826"), looks := false }, kinds := [], alts := [], laidByText := true, laidKinds := [.data], laidTests := true, laidLooks := .later }
def IntsDoesCardSaid : Prop := Claim7.holds Tryd.pinned (.plain (OpenSpec.ofChange intsDoesSpec)) intsDoesCard

/-- THE TIED CARD OF 'athanorlaw10.IntsWords'. -/
def intsWordsCard : Claim7 := { stood := { row := intsWordsRow, standIns := [], harness := (true, "406c127ab4bd0e3ef1954ec3d7e27644225ab21caa8bc54a406bfeb86bee0826"), looks := false }, kinds := [], alts := [], laidByText := true, laidKinds := [.data], laidTests := true, laidLooks := .later }
def IntsWordsCardSaid : Prop := Claim7.holds Tryd.pinned (.plain (OpenSpec.ofChange intsWordsSpec)) intsWordsCard

/-- THE TIED CARD OF 'athanorlaw10.IntsRing'. -/
def intsRingCard : Claim7 := { stood := { row := intsRingRow, standIns := [], harness := (true, "406c127ab4bd0e3ef1954ec3d7e27644225ab21caa8bc54a406bfeb86bee0826"), looks := false }, kinds := [], alts := [], laidByText := true, laidKinds := [.data], laidTests := true, laidLooks := .later }
def IntsRingCardSaid : Prop := Claim7.holds Tryd.pinned (.plain (OpenSpec.ofChange intsRingSpec)) intsRingCard

/-- THE TIED CARD OF 'athanorlaw10.IntsDivides'. -/
def intsDividesCard : Claim7 := { stood := { row := intsDividesRow, standIns := [], harness := (true, "406c127ab4bd0e3ef1954ec3d7e27644225ab21caa8bc54a406bfeb86bee0826"), looks := false }, kinds := [], alts := [], laidByText := true, laidKinds := [.data], laidTests := true, laidLooks := .later }
def IntsDividesCardSaid : Prop := Claim7.holds Tryd.pinned (.plain (OpenSpec.ofChange intsDividesSpec)) intsDividesCard

/-- THE SECOND FORM's CARD OF 'athanorlaw10.IntsWraps'. -/
def intsWrapsUptoCard : Claim7 := { stood := { row := intsWrapsUptoRow, standIns := [], harness := (true, "406c127ab4bd0e3ef1954ec3d7e27644225ab21caa8bc54a406bfeb86bee0826"), looks := false }, kinds := [], alts := [], laidByText := true, laidKinds := [.data], laidTests := true, laidLooks := .later }
def IntsWrapsUptoCardSaid : Prop := Claim7.holds Tryd.pinned (.plain (OpenSpec.upto intsWrapsSpec)) intsWrapsUptoCard

/-- THE SECOND FORM's CARD OF 'athanorlaw10.IntsDoes'. -/
def intsDoesUptoCard : Claim7 := { stood := { row := intsDoesUptoRow, standIns := [], harness := (true, "406c127ab4bd0e3ef1954ec3d7e27644225ab21caa8bc54a406bfeb86bee0826"), looks := false }, kinds := [], alts := [], laidByText := true, laidKinds := [.data], laidTests := true, laidLooks := .later }
def IntsDoesUptoCardSaid : Prop := Claim7.holds Tryd.pinned (.plain (OpenSpec.upto intsDoesSpec)) intsDoesUptoCard

/-- THE SECOND FORM's CARD OF 'athanorlaw10.IntsWords'. -/
def intsWordsUptoCard : Claim7 := { stood := { row := intsWordsUptoRow, standIns := [], harness := (true, "406c127ab4bd0e3ef1954ec3d7e27644225ab21caa8bc54a406bfeb86bee0826"), looks := false }, kinds := [], alts := [], laidByText := true, laidKinds := [.data], laidTests := true, laidLooks := .later }
def IntsWordsUptoCardSaid : Prop := Claim7.holds Tryd.pinned (.plain (OpenSpec.upto intsWordsSpec)) intsWordsUptoCard

/-- THE SECOND FORM's CARD OF 'athanorlaw10.IntsRing'. -/
def intsRingUptoCard : Claim7 := { stood := { row := intsRingUptoRow, standIns := [], harness := (true, "406c127ab4bd0e3ef1954ec3d7e27644225ab21caa8bc54a406bfeb86bee0826"), looks := false }, kinds := [], alts := [], laidByText := true, laidKinds := [.data], laidTests := true, laidLooks := .later }
def IntsRingUptoCardSaid : Prop := Claim7.holds Tryd.pinned (.plain (OpenSpec.upto intsRingSpec)) intsRingUptoCard

/-- THE SECOND FORM's CARD OF 'athanorlaw10.IntsDivides'. -/
def intsDividesUptoCard : Claim7 := { stood := { row := intsDividesUptoRow, standIns := [], harness := (true, "406c127ab4bd0e3ef1954ec3d7e27644225ab21caa8bc54a406bfeb86bee0826"), looks := false }, kinds := [], alts := [], laidByText := true, laidKinds := [.data], laidTests := true, laidLooks := .later }
def IntsDividesUptoCardSaid : Prop := Claim7.holds Tryd.pinned (.plain (OpenSpec.upto intsDividesSpec)) intsDividesUptoCard
end Rows
end Go.Proofs.YtcnkjlngaoaikaaDoor
