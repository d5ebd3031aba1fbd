/-
  NARROWER THAN 'FOR EVERY INPUT', by the rows' own cells (each row's printed sentence says how): NumsOne: laid · NumsTwo: laid · NumsSigned: laid · NumsQuotients: laid · NumsTurns: laid.
  DERIVED. THE GIVEN ROWS OF THIS SEAT. 5 by the template 'for every input the law returns true; each argument reads behind the call as it read before'; 0 by the template 'total and deterministic' (their statements: YtilgmaabongngaaDoorTotals.lean).
  GIVEN WITH THE SEED: the statements are not yours to turn. If you find one false, say at which input.
  Laid BY PROGRAM, IN A SANDBOX (cutbox-rows.mjs): the forced cells as the released guide's own fill.sh prints them over the translation 5d3168366da43b6c… (all of the seat's roots in one cut). By AI agents, Wed Nov 11 2026. No macro, syntax, notation, axiom, sorry.
-/
import Derived.Test.YtilgmaabongngaaDoorChecked
import GoSem.Claim
import GoSem.ClaimJoined
import GoSem.ClaimMapViews
import Derived.JoinedTies
import Derived.KernelRfl
namespace Go.Proofs.YtilgmaabongngaaDoor
/- THE CELL 'sum', in the pinned program and in every row, IS THE sha256 OF THE DUMP (.gsa) THAT YtilgmaabongngaaDoorProg.lean LOADS. Nothing in Lean hashes anything: it is a label: what it is worth is what the hold of that sum in a sandbox is worth. -/
noncomputable def Tryd.pinned : Pinned := { name := "ytilgmaabongngaadoor", sum := "5d3168366da43b6cdb24be7eb66cfd1774a50154108327e76cda08061ef3e3f2", checked := Tryd.checked }
namespace Rows
def none {H : Type} : Left H := { results := [], args := [] }

/- WHAT THE LISTED PACKAGE-LEVEL VARIABLES READ AS WHEN THE CALL BEGINS. Each datum BY PROGRAM (the guide's laid-datum.mjs) off the statement by which the dump's own 'gosem.cut.vars' lays the variable. In a bare row this is a premise. The card (YtilgmaabongngaaDoorCards.lean) ties it to the program's text. -/
def laid_math_bits_deBruijn64tab {H : Type} : DataW H := .agg [.lit (.int .u8 0), .lit (.int .u8 1), .lit (.int .u8 56), .lit (.int .u8 2), .lit (.int .u8 57), .lit (.int .u8 49), .lit (.int .u8 28), .lit (.int .u8 3), .lit (.int .u8 61), .lit (.int .u8 58), .lit (.int .u8 42), .lit (.int .u8 50), .lit (.int .u8 38), .lit (.int .u8 29), .lit (.int .u8 17), .lit (.int .u8 4), .lit (.int .u8 62), .lit (.int .u8 47), .lit (.int .u8 59), .lit (.int .u8 36), .lit (.int .u8 45), .lit (.int .u8 43), .lit (.int .u8 51), .lit (.int .u8 22), .lit (.int .u8 53), .lit (.int .u8 39), .lit (.int .u8 33), .lit (.int .u8 30), .lit (.int .u8 24), .lit (.int .u8 18), .lit (.int .u8 12), .lit (.int .u8 5), .lit (.int .u8 63), .lit (.int .u8 55), .lit (.int .u8 48), .lit (.int .u8 27), .lit (.int .u8 60), .lit (.int .u8 41), .lit (.int .u8 37), .lit (.int .u8 16), .lit (.int .u8 46), .lit (.int .u8 35), .lit (.int .u8 44), .lit (.int .u8 21), .lit (.int .u8 52), .lit (.int .u8 32), .lit (.int .u8 23), .lit (.int .u8 11), .lit (.int .u8 54), .lit (.int .u8 26), .lit (.int .u8 40), .lit (.int .u8 15), .lit (.int .u8 34), .lit (.int .u8 20), .lit (.int .u8 31), .lit (.int .u8 10), .lit (.int .u8 25), .lit (.int .u8 14), .lit (.int .u8 19), .lit (.int .u8 9), .lit (.int .u8 13), .lit (.int .u8 8), .lit (.int .u8 7), .lit (.int .u8 6)]

/-- 'athanorlaw02.NumsOne': WHATEVER THE INPUT: true; the input reads as it did. -/
def numsOneSpec : ChangeSpec := { name := "numsOne", fn := fun _ => fun
  | [d1, d2] => { results := [.lit (.bool true)], args := [d1, d2] }
  | _ => none }
def numsOneRow : OpenClaim := { program := "ytilgmaabongngaadoor", sum := "5d3168366da43b6cdb24be7eb66cfd1774a50154108327e76cda08061ef3e3f2", func := "athanor/athanorlaw02.NumsOne", spec := "numsOne", named := ["math/bits.deBruijn64tab"], apart := false, laid := [("math/bits.deBruijn64tab", laid_math_bits_deBruijn64tab)] }
def NumsOneSaid : Prop := numsOneRow.holds Tryd.pinned (OpenSpec.ofChange numsOneSpec)

/-- ITS FALSE NEIGHBOUR: 'it returns false'. Refute it at one input. -/
def numsOneWrong : ChangeSpec := { name := "numsOne", fn := fun _ => fun
  | [d1, d2] => { results := [.lit (.bool false)], args := [d1, d2] }
  | _ => none }
def NumsOneWrongFalsely : Prop := numsOneRow.holds Tryd.pinned (OpenSpec.ofChange numsOneWrong)

/-- 'athanorlaw02.NumsTwo': WHATEVER THE INPUT: true; the input reads as it did. -/
def numsTwoSpec : ChangeSpec := { name := "numsTwo", fn := fun _ => fun
  | [d1, d2, d3] => { results := [.lit (.bool true)], args := [d1, d2, d3] }
  | _ => none }
def numsTwoRow : OpenClaim := { program := "ytilgmaabongngaadoor", sum := "5d3168366da43b6cdb24be7eb66cfd1774a50154108327e76cda08061ef3e3f2", func := "athanor/athanorlaw02.NumsTwo", spec := "numsTwo", named := ["math/bits.deBruijn64tab"], apart := false, laid := [("math/bits.deBruijn64tab", laid_math_bits_deBruijn64tab)] }
def NumsTwoSaid : Prop := numsTwoRow.holds Tryd.pinned (OpenSpec.ofChange numsTwoSpec)

/-- ITS FALSE NEIGHBOUR: 'it returns false'. Refute it at one input. -/
def numsTwoWrong : ChangeSpec := { name := "numsTwo", fn := fun _ => fun
  | [d1, d2, d3] => { results := [.lit (.bool false)], args := [d1, d2, d3] }
  | _ => none }
def NumsTwoWrongFalsely : Prop := numsTwoRow.holds Tryd.pinned (OpenSpec.ofChange numsTwoWrong)

/-- 'athanorlaw02.NumsSigned': WHATEVER THE INPUT: true; the input reads as it did. -/
def numsSignedSpec : ChangeSpec := { name := "numsSigned", fn := fun _ => fun
  | [d1, d2, d3] => { results := [.lit (.bool true)], args := [d1, d2, d3] }
  | _ => none }
def numsSignedRow : OpenClaim := { program := "ytilgmaabongngaadoor", sum := "5d3168366da43b6cdb24be7eb66cfd1774a50154108327e76cda08061ef3e3f2", func := "athanor/athanorlaw02.NumsSigned", spec := "numsSigned", named := ["math/bits.deBruijn64tab"], apart := false, laid := [("math/bits.deBruijn64tab", laid_math_bits_deBruijn64tab)] }
def NumsSignedSaid : Prop := numsSignedRow.holds Tryd.pinned (OpenSpec.ofChange numsSignedSpec)

/-- ITS FALSE NEIGHBOUR: 'it returns false'. Refute it at one input. -/
def numsSignedWrong : ChangeSpec := { name := "numsSigned", fn := fun _ => fun
  | [d1, d2, d3] => { results := [.lit (.bool false)], args := [d1, d2, d3] }
  | _ => none }
def NumsSignedWrongFalsely : Prop := numsSignedRow.holds Tryd.pinned (OpenSpec.ofChange numsSignedWrong)

/-- 'athanorlaw02.NumsQuotients': WHATEVER THE INPUT: true; the input reads as it did. -/
def numsQuotientsSpec : ChangeSpec := { name := "numsQuotients", fn := fun _ => fun
  | [d] => { results := [.lit (.bool true)], args := [d] }
  | _ => none }
def numsQuotientsRow : OpenClaim := { program := "ytilgmaabongngaadoor", sum := "5d3168366da43b6cdb24be7eb66cfd1774a50154108327e76cda08061ef3e3f2", func := "athanor/athanorlaw02.NumsQuotients", spec := "numsQuotients", named := ["math/bits.deBruijn64tab"], apart := false, laid := [("math/bits.deBruijn64tab", laid_math_bits_deBruijn64tab)] }
def NumsQuotientsSaid : Prop := numsQuotientsRow.holds Tryd.pinned (OpenSpec.ofChange numsQuotientsSpec)

/-- ITS FALSE NEIGHBOUR: 'it returns false'. Refute it at one input. -/
def numsQuotientsWrong : ChangeSpec := { name := "numsQuotients", fn := fun _ => fun
  | [d] => { results := [.lit (.bool false)], args := [d] }
  | _ => none }
def NumsQuotientsWrongFalsely : Prop := numsQuotientsRow.holds Tryd.pinned (OpenSpec.ofChange numsQuotientsWrong)

/-- 'athanorlaw02.NumsTurns': WHATEVER THE INPUT: true; the input reads as it did. -/
def numsTurnsSpec : ChangeSpec := { name := "numsTurns", fn := fun _ => fun
  | [d1, d2, d3] => { results := [.lit (.bool true)], args := [d1, d2, d3] }
  | _ => none }
def numsTurnsRow : OpenClaim := { program := "ytilgmaabongngaadoor", sum := "5d3168366da43b6cdb24be7eb66cfd1774a50154108327e76cda08061ef3e3f2", func := "athanor/athanorlaw02.NumsTurns", spec := "numsTurns", named := ["math/bits.deBruijn64tab"], apart := false, laid := [("math/bits.deBruijn64tab", laid_math_bits_deBruijn64tab)] }
def NumsTurnsSaid : Prop := numsTurnsRow.holds Tryd.pinned (OpenSpec.ofChange numsTurnsSpec)

/-- ITS FALSE NEIGHBOUR: 'it returns false'. Refute it at one input. -/
def numsTurnsWrong : ChangeSpec := { name := "numsTurns", fn := fun _ => fun
  | [d1, d2, d3] => { results := [.lit (.bool false)], args := [d1, d2, d3] }
  | _ => none }
def NumsTurnsWrongFalsely : Prop := numsTurnsRow.holds Tryd.pinned (OpenSpec.ofChange numsTurnsWrong)

/- THE SECOND FORM. 'bulk': how many values and letters a reading holds, each counted each time it is reached (what is shared counts as often as it is met; a slice's spare places count too). A statement '..UptoSaid' is the law's where the arguments, and the package variables that the reading takes, are together of bulk at most 1048576: NARROWER than '..Said'. Prove '..Said' where nothing that the law and all that it calls make is longer than what came in: it says more and counts as full. Else prove '..UptoSaid'. A law counts once. -/
mutual
def uptoBulk {H : Type} : DataW H → Nat
  | .lit (.string bytes) => bytes.length + 1
  | .lit _ => 1
  | .nil => 1
  | .ptr d => uptoBulk d + 1
  | .slice elems spare => uptoBulkAll elems + uptoBulkAll spare + 1
  | .agg parts => uptoBulkAll parts + 1
  | .iface _ d => uptoBulk d + 1
  | .map entries => uptoBulkEntries entries + 1
  | .held _ => 1
def uptoBulkAll {H : Type} : List (DataW H) → Nat
  | [] => 0
  | d :: r => uptoBulk d + uptoBulkAll r
def uptoBulkEntries {H : Type} : List (Lit × DataW H) → Nat
  | [] => 0
  | x :: r => uptoBulkEntry x + uptoBulkEntries r
def uptoBulkEntry {H : Type} : Lit × DataW H → Nat
  | (.string bytes, d) => bytes.length + uptoBulk d + 1
  | (_, d) => uptoBulk d + 1
 end
def uptoSmall : (H : Type) → List (DataW H) → Bool := fun _ ds => decide (uptoBulkAll ds ≤ 1048576)
def OpenSpec.upto (s : _root_.Go.ChangeSpec) : _root_.Go.OpenSpec := { _root_.Go.OpenSpec.ofChange s with cond := some uptoSmall }

/-- 'athanorlaw02.NumsOne', WHERE WHAT IT READS IS OF BULK AT MOST 1048576: true; the input reads as it did. -/
def numsOneUptoRow : OpenClaim := { program := "ytilgmaabongngaadoor", sum := "5d3168366da43b6cdb24be7eb66cfd1774a50154108327e76cda08061ef3e3f2", func := "athanor/athanorlaw02.NumsOne", spec := "numsOne", named := ["math/bits.deBruijn64tab"], apart := false, laid := [("math/bits.deBruijn64tab", laid_math_bits_deBruijn64tab)], narrowed := true }
def NumsOneUptoSaid : Prop := numsOneUptoRow.holds Tryd.pinned (OpenSpec.upto numsOneSpec)

/-- 'athanorlaw02.NumsTwo', WHERE WHAT IT READS IS OF BULK AT MOST 1048576: true; the input reads as it did. -/
def numsTwoUptoRow : OpenClaim := { program := "ytilgmaabongngaadoor", sum := "5d3168366da43b6cdb24be7eb66cfd1774a50154108327e76cda08061ef3e3f2", func := "athanor/athanorlaw02.NumsTwo", spec := "numsTwo", named := ["math/bits.deBruijn64tab"], apart := false, laid := [("math/bits.deBruijn64tab", laid_math_bits_deBruijn64tab)], narrowed := true }
def NumsTwoUptoSaid : Prop := numsTwoUptoRow.holds Tryd.pinned (OpenSpec.upto numsTwoSpec)

/-- 'athanorlaw02.NumsSigned', WHERE WHAT IT READS IS OF BULK AT MOST 1048576: true; the input reads as it did. -/
def numsSignedUptoRow : OpenClaim := { program := "ytilgmaabongngaadoor", sum := "5d3168366da43b6cdb24be7eb66cfd1774a50154108327e76cda08061ef3e3f2", func := "athanor/athanorlaw02.NumsSigned", spec := "numsSigned", named := ["math/bits.deBruijn64tab"], apart := false, laid := [("math/bits.deBruijn64tab", laid_math_bits_deBruijn64tab)], narrowed := true }
def NumsSignedUptoSaid : Prop := numsSignedUptoRow.holds Tryd.pinned (OpenSpec.upto numsSignedSpec)

/-- 'athanorlaw02.NumsQuotients', WHERE WHAT IT READS IS OF BULK AT MOST 1048576: true; the input reads as it did. -/
def numsQuotientsUptoRow : OpenClaim := { program := "ytilgmaabongngaadoor", sum := "5d3168366da43b6cdb24be7eb66cfd1774a50154108327e76cda08061ef3e3f2", func := "athanor/athanorlaw02.NumsQuotients", spec := "numsQuotients", named := ["math/bits.deBruijn64tab"], apart := false, laid := [("math/bits.deBruijn64tab", laid_math_bits_deBruijn64tab)], narrowed := true }
def NumsQuotientsUptoSaid : Prop := numsQuotientsUptoRow.holds Tryd.pinned (OpenSpec.upto numsQuotientsSpec)

/-- 'athanorlaw02.NumsTurns', WHERE WHAT IT READS IS OF BULK AT MOST 1048576: true; the input reads as it did. -/
def numsTurnsUptoRow : OpenClaim := { program := "ytilgmaabongngaadoor", sum := "5d3168366da43b6cdb24be7eb66cfd1774a50154108327e76cda08061ef3e3f2", func := "athanor/athanorlaw02.NumsTurns", spec := "numsTurns", named := ["math/bits.deBruijn64tab"], apart := false, laid := [("math/bits.deBruijn64tab", laid_math_bits_deBruijn64tab)], narrowed := true }
def NumsTurnsUptoSaid : Prop := numsTurnsUptoRow.holds Tryd.pinned (OpenSpec.upto numsTurnsSpec)

end Rows
end Go.Proofs.YtilgmaabongngaaDoor
