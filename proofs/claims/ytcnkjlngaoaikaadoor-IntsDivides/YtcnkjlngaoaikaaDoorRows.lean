/-
  NARROWER THAN 'FOR EVERY INPUT', by the rows' own cells (each row's printed sentence says how): IntsWraps: laid · IntsDoes: laid · IntsWords: laid · IntsRing: laid · IntsDivides: laid.
  DERIVED. THE GIVEN ROWS OF THIS SEAT. 5 by the template 'for every input the law returns true; each argument reads behind the call as it read before'; 0 by the template 'total and deterministic' (their statements: YtcnkjlngaoaikaaDoorTotals.lean).
  GIVEN WITH THE SEED: the statements are not yours to turn. If you find one false, say at which input.
  Laid BY PROGRAM, IN A SANDBOX (cutbox-rows.mjs): the forced cells as the released guide's own fill.sh prints them over the translation ed21a19ad41412ff… (all of the seat's roots in one cut). By AI agents, Wed Nov 11 2026. No macro, syntax, notation, axiom, sorry.
-/
import Derived.Test.YtcnkjlngaoaikaaDoorChecked
import GoSem.Claim
import GoSem.ClaimJoined
import GoSem.ClaimMapViews
import Derived.JoinedTies
import Derived.KernelRfl
namespace Go.Proofs.YtcnkjlngaoaikaaDoor
/- THE CELL 'sum', in the pinned program and in every row, IS THE sha256 OF THE DUMP (.gsa) THAT YtcnkjlngaoaikaaDoorProg.lean LOADS. Nothing in Lean hashes anything: it is a label: what it is worth is what the hold of that sum in a sandbox is worth. -/
noncomputable def Tryd.pinned : Pinned := { name := "ytcnkjlngaoaikaadoor", sum := "ed21a19ad41412ffb2e0cf5254f25068ce62df6cb62f472722bb0366023f2dfc", checked := Tryd.checked }
namespace Rows
def none {H : Type} : Left H := { results := [], args := [] }

/- WHAT THE LISTED PACKAGE-LEVEL VARIABLES READ AS WHEN THE CALL BEGINS. Each datum BY PROGRAM (the guide's laid-datum.mjs) off the statement by which the dump's own 'gosem.cut.vars' lays the variable. In a bare row this is a premise. The card (YtcnkjlngaoaikaaDoorCards.lean) ties it to the program's text. -/
def laid_athanor_ints_words {H : Type} : DataW H := .agg [.lit (.string []), .lit (.string [43]), .lit (.string [45]), .lit (.string [42]), .lit (.string [47]), .lit (.string [37]), .lit (.string [60]), .lit (.string [61, 61])]

/-- 'athanorlaw10.IntsWraps': WHATEVER THE INPUT: true; the input reads as it did. -/
def intsWrapsSpec : ChangeSpec := { name := "intsWraps", fn := fun _ => fun
  | [d] => { results := [.lit (.bool true)], args := [d] }
  | _ => none }
def intsWrapsRow : OpenClaim := { program := "ytcnkjlngaoaikaadoor", sum := "ed21a19ad41412ffb2e0cf5254f25068ce62df6cb62f472722bb0366023f2dfc", func := "athanor/athanorlaw10.IntsWraps", spec := "intsWraps", named := ["athanor/ints.words"], apart := false, laid := [("athanor/ints.words", laid_athanor_ints_words)] }
def IntsWrapsSaid : Prop := intsWrapsRow.holds Tryd.pinned (OpenSpec.ofChange intsWrapsSpec)

/-- ITS FALSE NEIGHBOUR: 'it returns false'. Refute it at one input. -/
def intsWrapsWrong : ChangeSpec := { name := "intsWraps", fn := fun _ => fun
  | [d] => { results := [.lit (.bool false)], args := [d] }
  | _ => none }
def IntsWrapsWrongFalsely : Prop := intsWrapsRow.holds Tryd.pinned (OpenSpec.ofChange intsWrapsWrong)

/-- 'athanorlaw10.IntsDoes': WHATEVER THE INPUT: true; the input reads as it did. -/
def intsDoesSpec : ChangeSpec := { name := "intsDoes", fn := fun _ => fun
  | [d1, d2, d3] => { results := [.lit (.bool true)], args := [d1, d2, d3] }
  | _ => none }
def intsDoesRow : OpenClaim := { program := "ytcnkjlngaoaikaadoor", sum := "ed21a19ad41412ffb2e0cf5254f25068ce62df6cb62f472722bb0366023f2dfc", func := "athanor/athanorlaw10.IntsDoes", spec := "intsDoes", named := ["athanor/ints.words"], apart := false, laid := [("athanor/ints.words", laid_athanor_ints_words)] }
def IntsDoesSaid : Prop := intsDoesRow.holds Tryd.pinned (OpenSpec.ofChange intsDoesSpec)

/-- ITS FALSE NEIGHBOUR: 'it returns false'. Refute it at one input. -/
def intsDoesWrong : ChangeSpec := { name := "intsDoes", fn := fun _ => fun
  | [d1, d2, d3] => { results := [.lit (.bool false)], args := [d1, d2, d3] }
  | _ => none }
def IntsDoesWrongFalsely : Prop := intsDoesRow.holds Tryd.pinned (OpenSpec.ofChange intsDoesWrong)

/-- 'athanorlaw10.IntsWords': WHATEVER THE INPUT: true; the input reads as it did. -/
def intsWordsSpec : ChangeSpec := { name := "intsWords", fn := fun _ => fun
  | [d1, d2] => { results := [.lit (.bool true)], args := [d1, d2] }
  | _ => none }
def intsWordsRow : OpenClaim := { program := "ytcnkjlngaoaikaadoor", sum := "ed21a19ad41412ffb2e0cf5254f25068ce62df6cb62f472722bb0366023f2dfc", func := "athanor/athanorlaw10.IntsWords", spec := "intsWords", named := ["athanor/ints.words"], apart := false, laid := [("athanor/ints.words", laid_athanor_ints_words)] }
def IntsWordsSaid : Prop := intsWordsRow.holds Tryd.pinned (OpenSpec.ofChange intsWordsSpec)

/-- ITS FALSE NEIGHBOUR: 'it returns false'. Refute it at one input. -/
def intsWordsWrong : ChangeSpec := { name := "intsWords", fn := fun _ => fun
  | [d1, d2] => { results := [.lit (.bool false)], args := [d1, d2] }
  | _ => none }
def IntsWordsWrongFalsely : Prop := intsWordsRow.holds Tryd.pinned (OpenSpec.ofChange intsWordsWrong)

/-- 'athanorlaw10.IntsRing': WHATEVER THE INPUT: true; the input reads as it did. -/
def intsRingSpec : ChangeSpec := { name := "intsRing", fn := fun _ => fun
  | [d1, d2, d3] => { results := [.lit (.bool true)], args := [d1, d2, d3] }
  | _ => none }
def intsRingRow : OpenClaim := { program := "ytcnkjlngaoaikaadoor", sum := "ed21a19ad41412ffb2e0cf5254f25068ce62df6cb62f472722bb0366023f2dfc", func := "athanor/athanorlaw10.IntsRing", spec := "intsRing", named := ["athanor/ints.words"], apart := false, laid := [("athanor/ints.words", laid_athanor_ints_words)] }
def IntsRingSaid : Prop := intsRingRow.holds Tryd.pinned (OpenSpec.ofChange intsRingSpec)

/-- ITS FALSE NEIGHBOUR: 'it returns false'. Refute it at one input. -/
def intsRingWrong : ChangeSpec := { name := "intsRing", fn := fun _ => fun
  | [d1, d2, d3] => { results := [.lit (.bool false)], args := [d1, d2, d3] }
  | _ => none }
def IntsRingWrongFalsely : Prop := intsRingRow.holds Tryd.pinned (OpenSpec.ofChange intsRingWrong)

/-- 'athanorlaw10.IntsDivides': WHATEVER THE INPUT: true; the input reads as it did. -/
def intsDividesSpec : ChangeSpec := { name := "intsDivides", fn := fun _ => fun
  | [d1, d2] => { results := [.lit (.bool true)], args := [d1, d2] }
  | _ => none }
def intsDividesRow : OpenClaim := { program := "ytcnkjlngaoaikaadoor", sum := "ed21a19ad41412ffb2e0cf5254f25068ce62df6cb62f472722bb0366023f2dfc", func := "athanor/athanorlaw10.IntsDivides", spec := "intsDivides", named := ["athanor/ints.words"], apart := false, laid := [("athanor/ints.words", laid_athanor_ints_words)] }
def IntsDividesSaid : Prop := intsDividesRow.holds Tryd.pinned (OpenSpec.ofChange intsDividesSpec)

/-- ITS FALSE NEIGHBOUR: 'it returns false'. Refute it at one input. -/
def intsDividesWrong : ChangeSpec := { name := "intsDivides", fn := fun _ => fun
  | [d1, d2] => { results := [.lit (.bool false)], args := [d1, d2] }
  | _ => none }
def IntsDividesWrongFalsely : Prop := intsDividesRow.holds Tryd.pinned (OpenSpec.ofChange intsDividesWrong)

/- THE SECOND FORM. 'bulk': how many values and letters a reading holds, each counted each time it is reached (what is shared counts as often as it is met; a slice's spare places count too). A statement '..UptoSaid' is the law's where the arguments, and the package variables that the reading takes, are together of bulk at most 1048576: NARROWER than '..Said'. Prove '..Said' where nothing that the law and all that it calls make is longer than what came in: it says more and counts as full. Else prove '..UptoSaid'. A law counts once. -/
mutual
def uptoBulk {H : Type} : DataW H → Nat
  | .lit (.string bytes) => bytes.length + 1
  | .lit _ => 1
  | .nil => 1
  | .ptr d => uptoBulk d + 1
  | .slice elems spare => uptoBulkAll elems + uptoBulkAll spare + 1
  | .agg parts => uptoBulkAll parts + 1
  | .iface _ d => uptoBulk d + 1
  | .map entries => uptoBulkEntries entries + 1
  | .held _ => 1
def uptoBulkAll {H : Type} : List (DataW H) → Nat
  | [] => 0
  | d :: r => uptoBulk d + uptoBulkAll r
def uptoBulkEntries {H : Type} : List (Lit × DataW H) → Nat
  | [] => 0
  | x :: r => uptoBulkEntry x + uptoBulkEntries r
def uptoBulkEntry {H : Type} : Lit × DataW H → Nat
  | (.string bytes, d) => bytes.length + uptoBulk d + 1
  | (_, d) => uptoBulk d + 1
 end
def uptoSmall : (H : Type) → List (DataW H) → Bool := fun _ ds => decide (uptoBulkAll ds ≤ 1048576)
def OpenSpec.upto (s : _root_.Go.ChangeSpec) : _root_.Go.OpenSpec := { _root_.Go.OpenSpec.ofChange s with cond := some uptoSmall }

/-- 'athanorlaw10.IntsWraps', WHERE WHAT IT READS IS OF BULK AT MOST 1048576: true; the input reads as it did. -/
def intsWrapsUptoRow : OpenClaim := { program := "ytcnkjlngaoaikaadoor", sum := "ed21a19ad41412ffb2e0cf5254f25068ce62df6cb62f472722bb0366023f2dfc", func := "athanor/athanorlaw10.IntsWraps", spec := "intsWraps", named := ["athanor/ints.words"], apart := false, laid := [("athanor/ints.words", laid_athanor_ints_words)], narrowed := true }
def IntsWrapsUptoSaid : Prop := intsWrapsUptoRow.holds Tryd.pinned (OpenSpec.upto intsWrapsSpec)

/-- 'athanorlaw10.IntsDoes', WHERE WHAT IT READS IS OF BULK AT MOST 1048576: true; the input reads as it did. -/
def intsDoesUptoRow : OpenClaim := { program := "ytcnkjlngaoaikaadoor", sum := "ed21a19ad41412ffb2e0cf5254f25068ce62df6cb62f472722bb0366023f2dfc", func := "athanor/athanorlaw10.IntsDoes", spec := "intsDoes", named := ["athanor/ints.words"], apart := false, laid := [("athanor/ints.words", laid_athanor_ints_words)], narrowed := true }
def IntsDoesUptoSaid : Prop := intsDoesUptoRow.holds Tryd.pinned (OpenSpec.upto intsDoesSpec)

/-- 'athanorlaw10.IntsWords', WHERE WHAT IT READS IS OF BULK AT MOST 1048576: true; the input reads as it did. -/
def intsWordsUptoRow : OpenClaim := { program := "ytcnkjlngaoaikaadoor", sum := "ed21a19ad41412ffb2e0cf5254f25068ce62df6cb62f472722bb0366023f2dfc", func := "athanor/athanorlaw10.IntsWords", spec := "intsWords", named := ["athanor/ints.words"], apart := false, laid := [("athanor/ints.words", laid_athanor_ints_words)], narrowed := true }
def IntsWordsUptoSaid : Prop := intsWordsUptoRow.holds Tryd.pinned (OpenSpec.upto intsWordsSpec)

/-- 'athanorlaw10.IntsRing', WHERE WHAT IT READS IS OF BULK AT MOST 1048576: true; the input reads as it did. -/
def intsRingUptoRow : OpenClaim := { program := "ytcnkjlngaoaikaadoor", sum := "ed21a19ad41412ffb2e0cf5254f25068ce62df6cb62f472722bb0366023f2dfc", func := "athanor/athanorlaw10.IntsRing", spec := "intsRing", named := ["athanor/ints.words"], apart := false, laid := [("athanor/ints.words", laid_athanor_ints_words)], narrowed := true }
def IntsRingUptoSaid : Prop := intsRingUptoRow.holds Tryd.pinned (OpenSpec.upto intsRingSpec)

/-- 'athanorlaw10.IntsDivides', WHERE WHAT IT READS IS OF BULK AT MOST 1048576: true; the input reads as it did. -/
def intsDividesUptoRow : OpenClaim := { program := "ytcnkjlngaoaikaadoor", sum := "ed21a19ad41412ffb2e0cf5254f25068ce62df6cb62f472722bb0366023f2dfc", func := "athanor/athanorlaw10.IntsDivides", spec := "intsDivides", named := ["athanor/ints.words"], apart := false, laid := [("athanor/ints.words", laid_athanor_ints_words)], narrowed := true }
def IntsDividesUptoSaid : Prop := intsDividesUptoRow.holds Tryd.pinned (OpenSpec.upto intsDividesSpec)

end Rows
end Go.Proofs.YtcnkjlngaoaikaaDoor
