/-
  NARROWER THAN 'FOR EVERY INPUT', by the rows' own cells (each row's printed sentence says how): LexReads: laid · LexJoins: laid · LexMost: laid.
  DERIVED. THE GIVEN ROWS OF THIS SEAT. 3 by the template 'for every input the law returns true; each argument reads behind the call as it read before'; 0 by the template 'total and deterministic' (their statements: YtppjjbpiefkjlaaDoorTotals.lean).
  GIVEN WITH THE SEED: the statements are not yours to turn. If you find one false, say at which input.
  Laid BY PROGRAM, IN A SANDBOX (cutbox-rows.mjs): the forced cells as the released guide's own fill.sh prints them over the translation 6781c90c67e5b2fd… (all of the seat's roots in one cut). By AI agents, Wed Nov 11 2026. No macro, syntax, notation, axiom, sorry.
-/
import Derived.Test.YtppjjbpiefkjlaaDoorChecked
import GoSem.Claim
import GoSem.ClaimJoined
import GoSem.ClaimMapViews
import Derived.JoinedTies
import Derived.KernelRfl
namespace Go.Proofs.YtppjjbpiefkjlaaDoor
/- THE CELL 'sum', in the pinned program and in every row, IS THE sha256 OF THE DUMP (.gsa) THAT YtppjjbpiefkjlaaDoorProg.lean LOADS. Nothing in Lean hashes anything: it is a label: what it is worth is what the hold of that sum in a sandbox is worth. -/
noncomputable def Tryd.pinned : Pinned := { name := "ytppjjbpiefkjlaadoor", sum := "6781c90c67e5b2fd79f3972829b810833d151276a8c13c0823de8de74a3ba3ed", checked := Tryd.checked }
namespace Rows
def none {H : Type} : Left H := { results := [], args := [] }

/- WHAT THE LISTED PACKAGE-LEVEL VARIABLES READ AS WHEN THE CALL BEGINS. Each datum BY PROGRAM (the guide's laid-datum.mjs) off the statement by which the dump's own 'gosem.cut.vars' lays the variable. In a bare row this is a premise. The card (YtppjjbpiefkjlaaDoorCards.lean) ties it to the program's text. -/
def laid_athanor_lex_keyWords {H : Type} : DataW H := .agg [.lit (.string [116, 121, 112, 101]), .lit (.string [102, 117, 110]), .lit (.string [108, 101, 116]), .lit (.string [114, 101, 99]), .lit (.string [105, 110]), .lit (.string [99, 97, 115, 101]), .lit (.string [111, 102]), .lit (.string [101, 110, 100]), .lit (.string [105, 102]), .lit (.string [116, 104, 101, 110]), .lit (.string [101, 108, 115, 101]), .lit (.string [112, 114, 105, 110, 116])]
def laid_athanor_lex_signs {H : Type} : DataW H := .agg [.lit (.string [45, 62]), .lit (.string [61, 61]), .lit (.string [124]), .lit (.string [61]), .lit (.string [40]), .lit (.string [41]), .lit (.string [59]), .lit (.string [43]), .lit (.string [45]), .lit (.string [42]), .lit (.string [47]), .lit (.string [37]), .lit (.string [60]), .lit (.string [95])]

/-- 'athanorlaw11.LexReads': WHATEVER THE INPUT: true; the input reads as it did. -/
def lexReadsSpec : ChangeSpec := { name := "lexReads", fn := fun _ => fun
  | [d] => { results := [.lit (.bool true)], args := [d] }
  | _ => none }
def lexReadsRow : OpenClaim := { program := "ytppjjbpiefkjlaadoor", sum := "6781c90c67e5b2fd79f3972829b810833d151276a8c13c0823de8de74a3ba3ed", func := "athanor/athanorlaw11.LexReads", spec := "lexReads", named := ["athanor/lex.keyWords", "athanor/lex.signs"], apart := false, laid := [("athanor/lex.keyWords", laid_athanor_lex_keyWords), ("athanor/lex.signs", laid_athanor_lex_signs)] }
def LexReadsSaid : Prop := lexReadsRow.holds Tryd.pinned (OpenSpec.ofChange lexReadsSpec)

/-- ITS FALSE NEIGHBOUR: 'it returns false'. Refute it at one input. -/
def lexReadsWrong : ChangeSpec := { name := "lexReads", fn := fun _ => fun
  | [d] => { results := [.lit (.bool false)], args := [d] }
  | _ => none }
def LexReadsWrongFalsely : Prop := lexReadsRow.holds Tryd.pinned (OpenSpec.ofChange lexReadsWrong)

/-- 'athanorlaw11.LexJoins': WHATEVER THE INPUT: true; the input reads as it did. -/
def lexJoinsSpec : ChangeSpec := { name := "lexJoins", fn := fun _ => fun
  | [d1, d2] => { results := [.lit (.bool true)], args := [d1, d2] }
  | _ => none }
def lexJoinsRow : OpenClaim := { program := "ytppjjbpiefkjlaadoor", sum := "6781c90c67e5b2fd79f3972829b810833d151276a8c13c0823de8de74a3ba3ed", func := "athanor/athanorlaw11.LexJoins", spec := "lexJoins", named := ["athanor/lex.keyWords", "athanor/lex.signs"], apart := false, laid := [("athanor/lex.keyWords", laid_athanor_lex_keyWords), ("athanor/lex.signs", laid_athanor_lex_signs)] }
def LexJoinsSaid : Prop := lexJoinsRow.holds Tryd.pinned (OpenSpec.ofChange lexJoinsSpec)

/-- ITS FALSE NEIGHBOUR: 'it returns false'. Refute it at one input. -/
def lexJoinsWrong : ChangeSpec := { name := "lexJoins", fn := fun _ => fun
  | [d1, d2] => { results := [.lit (.bool false)], args := [d1, d2] }
  | _ => none }
def LexJoinsWrongFalsely : Prop := lexJoinsRow.holds Tryd.pinned (OpenSpec.ofChange lexJoinsWrong)

/-- 'athanorlaw11.LexMost': WHATEVER THE INPUT: true; the input reads as it did. -/
def lexMostSpec : ChangeSpec := { name := "lexMost", fn := fun _ => fun
  | [d1, d2] => { results := [.lit (.bool true)], args := [d1, d2] }
  | _ => none }
def lexMostRow : OpenClaim := { program := "ytppjjbpiefkjlaadoor", sum := "6781c90c67e5b2fd79f3972829b810833d151276a8c13c0823de8de74a3ba3ed", func := "athanor/athanorlaw11.LexMost", spec := "lexMost", named := ["athanor/lex.keyWords", "athanor/lex.signs"], apart := false, laid := [("athanor/lex.keyWords", laid_athanor_lex_keyWords), ("athanor/lex.signs", laid_athanor_lex_signs)] }
def LexMostSaid : Prop := lexMostRow.holds Tryd.pinned (OpenSpec.ofChange lexMostSpec)

/-- ITS FALSE NEIGHBOUR: 'it returns false'. Refute it at one input. -/
def lexMostWrong : ChangeSpec := { name := "lexMost", fn := fun _ => fun
  | [d1, d2] => { results := [.lit (.bool false)], args := [d1, d2] }
  | _ => none }
def LexMostWrongFalsely : Prop := lexMostRow.holds Tryd.pinned (OpenSpec.ofChange lexMostWrong)

/- THE SECOND FORM. 'bulk': how many values and letters a reading holds, each counted each time it is reached (what is shared counts as often as it is met; a slice's spare places count too). A statement '..UptoSaid' is the law's where the arguments, and the package variables that the reading takes, are together of bulk at most 1048576: NARROWER than '..Said'. Prove '..Said' where nothing that the law and all that it calls make is longer than what came in: it says more and counts as full. Else prove '..UptoSaid'. A law counts once. -/
mutual
def uptoBulk {H : Type} : DataW H → Nat
  | .lit (.string bytes) => bytes.length + 1
  | .lit _ => 1
  | .nil => 1
  | .ptr d => uptoBulk d + 1
  | .slice elems spare => uptoBulkAll elems + uptoBulkAll spare + 1
  | .agg parts => uptoBulkAll parts + 1
  | .iface _ d => uptoBulk d + 1
  | .map entries => uptoBulkEntries entries + 1
  | .held _ => 1
def uptoBulkAll {H : Type} : List (DataW H) → Nat
  | [] => 0
  | d :: r => uptoBulk d + uptoBulkAll r
def uptoBulkEntries {H : Type} : List (Lit × DataW H) → Nat
  | [] => 0
  | x :: r => uptoBulkEntry x + uptoBulkEntries r
def uptoBulkEntry {H : Type} : Lit × DataW H → Nat
  | (.string bytes, d) => bytes.length + uptoBulk d + 1
  | (_, d) => uptoBulk d + 1
 end
def uptoSmall : (H : Type) → List (DataW H) → Bool := fun _ ds => decide (uptoBulkAll ds ≤ 1048576)
def OpenSpec.upto (s : _root_.Go.ChangeSpec) : _root_.Go.OpenSpec := { _root_.Go.OpenSpec.ofChange s with cond := some uptoSmall }

/-- 'athanorlaw11.LexReads', WHERE WHAT IT READS IS OF BULK AT MOST 1048576: true; the input reads as it did. -/
def lexReadsUptoRow : OpenClaim := { program := "ytppjjbpiefkjlaadoor", sum := "6781c90c67e5b2fd79f3972829b810833d151276a8c13c0823de8de74a3ba3ed", func := "athanor/athanorlaw11.LexReads", spec := "lexReads", named := ["athanor/lex.keyWords", "athanor/lex.signs"], apart := false, laid := [("athanor/lex.keyWords", laid_athanor_lex_keyWords), ("athanor/lex.signs", laid_athanor_lex_signs)], narrowed := true }
def LexReadsUptoSaid : Prop := lexReadsUptoRow.holds Tryd.pinned (OpenSpec.upto lexReadsSpec)

/-- 'athanorlaw11.LexJoins', WHERE WHAT IT READS IS OF BULK AT MOST 1048576: true; the input reads as it did. -/
def lexJoinsUptoRow : OpenClaim := { program := "ytppjjbpiefkjlaadoor", sum := "6781c90c67e5b2fd79f3972829b810833d151276a8c13c0823de8de74a3ba3ed", func := "athanor/athanorlaw11.LexJoins", spec := "lexJoins", named := ["athanor/lex.keyWords", "athanor/lex.signs"], apart := false, laid := [("athanor/lex.keyWords", laid_athanor_lex_keyWords), ("athanor/lex.signs", laid_athanor_lex_signs)], narrowed := true }
def LexJoinsUptoSaid : Prop := lexJoinsUptoRow.holds Tryd.pinned (OpenSpec.upto lexJoinsSpec)

/-- 'athanorlaw11.LexMost', WHERE WHAT IT READS IS OF BULK AT MOST 1048576: true; the input reads as it did. -/
def lexMostUptoRow : OpenClaim := { program := "ytppjjbpiefkjlaadoor", sum := "6781c90c67e5b2fd79f3972829b810833d151276a8c13c0823de8de74a3ba3ed", func := "athanor/athanorlaw11.LexMost", spec := "lexMost", named := ["athanor/lex.keyWords", "athanor/lex.signs"], apart := false, laid := [("athanor/lex.keyWords", laid_athanor_lex_keyWords), ("athanor/lex.signs", laid_athanor_lex_signs)], narrowed := true }
def LexMostUptoSaid : Prop := lexMostUptoRow.holds Tryd.pinned (OpenSpec.upto lexMostSpec)

end Rows
end Go.Proofs.YtppjjbpiefkjlaaDoor
