/-
  DERIVED. GIVEN WITH THE SEED: THE CARDS: each row of YtlcpagiljfpbpaaDoorRows.lean that lists a variable, with what it lists TIED to the program's text (the seventh form; the later family's looks); each row that meets fmt, with fmt's text TOLD by the authors' own Lean function (tested against real Go, not proved from fmt's source: count such statements apart). THE CARD IS WHAT COUNTS. Prove the row's statement (the work); the ties are given (YtlcpagiljfpbpaaDoorTie.lean); close each card by the builder's one call (the guide's Derived/Test/ToyasCard.lean, 'card_holds'). Laid BY PROGRAM, IN A SANDBOX (cutbox-door.mjs). By AI agents, Wed Nov 11 2026. No macro, syntax, notation, axiom, sorry.
-/
import Derived.Test.YtlcpagiljfpbpaaDoorRows
import GoSem.ClaimSeven
namespace Go.Proofs.YtlcpagiljfpbpaaDoor
namespace Rows

/-- THE TIED CARD OF 'athanorlaw04.EncodeUnlike'. -/
def encodeUnlikeCard : Claim7 := { stood := { row := encodeUnlikeRow, standIns := [], harness := (true, "cfa8aad0c5fb122cac27e838cb64438cf5d4fee7a88ab9248271e07d035d8938"), looks := true }, kinds := [], alts := [], laidByText := true, laidKinds := [.data, .pinned], laidTests := true, laidLooks := .later }
def EncodeUnlikeCardSaid : Prop := Claim7.holds Tryd.pinned (.plain (OpenSpec.ofChange encodeUnlikeSpec)) encodeUnlikeCard

/-- THE TIED CARD OF 'athanorlaw04.EncodeJoins'. -/
def encodeJoinsCard : Claim7 := { stood := { row := encodeJoinsRow, standIns := [], harness := (true, "cfa8aad0c5fb122cac27e838cb64438cf5d4fee7a88ab9248271e07d035d8938"), looks := true }, kinds := [], alts := [], laidByText := true, laidKinds := [.data, .pinned], laidTests := true, laidLooks := .later }
def EncodeJoinsCardSaid : Prop := Claim7.holds Tryd.pinned (.plain (OpenSpec.ofChange encodeJoinsSpec)) encodeJoinsCard

/-- THE SECOND FORM's CARD OF 'athanorlaw04.EncodeUnlike'. -/
def encodeUnlikeUptoCard : Claim7 := { stood := { row := encodeUnlikeUptoRow, standIns := [], harness := (true, "cfa8aad0c5fb122cac27e838cb64438cf5d4fee7a88ab9248271e07d035d8938"), looks := true }, kinds := [], alts := [], laidByText := true, laidKinds := [.data, .pinned], laidTests := true, laidLooks := .later }
def EncodeUnlikeUptoCardSaid : Prop := Claim7.holds Tryd.pinned (.plain (OpenSpec.upto encodeUnlikeSpec)) encodeUnlikeUptoCard

/-- THE SECOND FORM's CARD OF 'athanorlaw04.EncodeJoins'. -/
def encodeJoinsUptoCard : Claim7 := { stood := { row := encodeJoinsUptoRow, standIns := [], harness := (true, "cfa8aad0c5fb122cac27e838cb64438cf5d4fee7a88ab9248271e07d035d8938"), looks := true }, kinds := [], alts := [], laidByText := true, laidKinds := [.data, .pinned], laidTests := true, laidLooks := .later }
def EncodeJoinsUptoCardSaid : Prop := Claim7.holds Tryd.pinned (.plain (OpenSpec.upto encodeJoinsSpec)) encodeJoinsUptoCard
end Rows
end Go.Proofs.YtlcpagiljfpbpaaDoor
