/-
  NARROWER THAN 'FOR EVERY INPUT', by the rows' own cells (each row's printed sentence says how): ParseReads: laid · ParseChecks: loops, laid · ParseSame: loops, laid · ParseTakes: laid · ParseBrackets: laid · ParseSpread: laid.
  DERIVED. THE GIVEN ROWS OF THIS SEAT. 6 by the template 'for every input the law returns true; each argument reads behind the call as it read before'; 0 by the template 'total and deterministic' (their statements: YtkdbgopgjbfhbaaGreatDoorTotals.lean).
  GIVEN WITH THE SEED: the statements are not yours to turn. If you find one false, say at which input.
  Laid BY PROGRAM, IN A SANDBOX (cutbox-rows.mjs): the forced cells as the released guide's own fill.sh prints them over the translation 7fc29fbe1dadc271… (all of the seat's roots in one cut). By AI agents, Wed Nov 11 2026. No macro, syntax, notation, axiom, sorry.
-/
import Derived.Test.YtkdbgopgjbfhbaaGreatDoorChecked
import GoSem.PinnedTables
import GoSem.Claim
import GoSem.ClaimJoined
import GoSem.ClaimMapViews
import Derived.JoinedTies
import Derived.KernelRfl
namespace Go.Proofs.YtkdbgopgjbfhbaaGreatDoor
/- THE CELL 'sum', in the pinned program and in every row, IS THE sha256 OF THE DUMP (.gsa) THAT YtkdbgopgjbfhbaaGreatDoorProg.lean LOADS. Nothing in Lean hashes anything: it is a label: what it is worth is what the hold of that sum in a sandbox is worth. -/
noncomputable def Tryz.pinned : Pinned := { name := "ytkdbgopgjbfhbaagreatdoor", sum := "7fc29fbe1dadc2719d55f4d57318d05325de6cc5983617d9597c8ed0d9f4ee37", checked := Tryz.checked }
namespace Rows
def none {H : Type} : Left H := { results := [], args := [] }

/- WHAT THE LISTED PACKAGE-LEVEL VARIABLES READ AS WHEN THE CALL BEGINS. Each datum BY PROGRAM (the guide's laid-datum.mjs) off the statement by which the dump's own 'gosem.cut.vars' lays the variable. In a bare row this is a premise. The card (YtkdbgopgjbfhbaaGreatDoorCards.lean) ties it to the program's text. -/
def laid_athanor_lex_keyWords {H : Type} : DataW H := .agg [.lit (.string [116, 121, 112, 101]), .lit (.string [102, 117, 110]), .lit (.string [108, 101, 116]), .lit (.string [114, 101, 99]), .lit (.string [105, 110]), .lit (.string [99, 97, 115, 101]), .lit (.string [111, 102]), .lit (.string [101, 110, 100]), .lit (.string [105, 102]), .lit (.string [116, 104, 101, 110]), .lit (.string [101, 108, 115, 101]), .lit (.string [112, 114, 105, 110, 116])]
def laid_athanor_lex_signs {H : Type} : DataW H := .agg [.lit (.string [45, 62]), .lit (.string [61, 61]), .lit (.string [124]), .lit (.string [61]), .lit (.string [40]), .lit (.string [41]), .lit (.string [59]), .lit (.string [43]), .lit (.string [45]), .lit (.string [42]), .lit (.string [47]), .lit (.string [37]), .lit (.string [60]), .lit (.string [95])]
def laid_math_bits_deBruijn32tab {H : Type} : DataW H := .agg [.lit (.int .u8 0), .lit (.int .u8 1), .lit (.int .u8 28), .lit (.int .u8 2), .lit (.int .u8 29), .lit (.int .u8 14), .lit (.int .u8 24), .lit (.int .u8 3), .lit (.int .u8 30), .lit (.int .u8 22), .lit (.int .u8 20), .lit (.int .u8 15), .lit (.int .u8 25), .lit (.int .u8 17), .lit (.int .u8 4), .lit (.int .u8 8), .lit (.int .u8 31), .lit (.int .u8 27), .lit (.int .u8 13), .lit (.int .u8 23), .lit (.int .u8 21), .lit (.int .u8 19), .lit (.int .u8 16), .lit (.int .u8 7), .lit (.int .u8 26), .lit (.int .u8 12), .lit (.int .u8 18), .lit (.int .u8 6), .lit (.int .u8 11), .lit (.int .u8 5), .lit (.int .u8 10), .lit (.int .u8 9)]
def laid_math_bits_deBruijn64tab {H : Type} : DataW H := .agg [.lit (.int .u8 0), .lit (.int .u8 1), .lit (.int .u8 56), .lit (.int .u8 2), .lit (.int .u8 57), .lit (.int .u8 49), .lit (.int .u8 28), .lit (.int .u8 3), .lit (.int .u8 61), .lit (.int .u8 58), .lit (.int .u8 42), .lit (.int .u8 50), .lit (.int .u8 38), .lit (.int .u8 29), .lit (.int .u8 17), .lit (.int .u8 4), .lit (.int .u8 62), .lit (.int .u8 47), .lit (.int .u8 59), .lit (.int .u8 36), .lit (.int .u8 45), .lit (.int .u8 43), .lit (.int .u8 51), .lit (.int .u8 22), .lit (.int .u8 53), .lit (.int .u8 39), .lit (.int .u8 33), .lit (.int .u8 30), .lit (.int .u8 24), .lit (.int .u8 18), .lit (.int .u8 12), .lit (.int .u8 5), .lit (.int .u8 63), .lit (.int .u8 55), .lit (.int .u8 48), .lit (.int .u8 27), .lit (.int .u8 60), .lit (.int .u8 41), .lit (.int .u8 37), .lit (.int .u8 16), .lit (.int .u8 46), .lit (.int .u8 35), .lit (.int .u8 44), .lit (.int .u8 21), .lit (.int .u8 52), .lit (.int .u8 32), .lit (.int .u8 23), .lit (.int .u8 11), .lit (.int .u8 54), .lit (.int .u8 26), .lit (.int .u8 40), .lit (.int .u8 15), .lit (.int .u8 34), .lit (.int .u8 20), .lit (.int .u8 31), .lit (.int .u8 10), .lit (.int .u8 25), .lit (.int .u8 14), .lit (.int .u8 19), .lit (.int .u8 9), .lit (.int .u8 13), .lit (.int .u8 8), .lit (.int .u8 7), .lit (.int .u8 6)]
def laid_athanor_ints_words {H : Type} : DataW H := .agg [.lit (.string []), .lit (.string [43]), .lit (.string [45]), .lit (.string [42]), .lit (.string [47]), .lit (.string [37]), .lit (.string [60]), .lit (.string [61, 61])]
def laid_internal_strconv_uint64pow10 {H : Type} : DataW H := .agg [.lit (.int .u64 1), .lit (.int .u64 10), .lit (.int .u64 100), .lit (.int .u64 1000), .lit (.int .u64 10000), .lit (.int .u64 100000), .lit (.int .u64 1000000), .lit (.int .u64 10000000), .lit (.int .u64 100000000), .lit (.int .u64 1000000000), .lit (.int .u64 10000000000), .lit (.int .u64 100000000000), .lit (.int .u64 1000000000000), .lit (.int .u64 10000000000000), .lit (.int .u64 100000000000000), .lit (.int .u64 1000000000000000), .lit (.int .u64 10000000000000000), .lit (.int .u64 100000000000000000), .lit (.int .u64 1000000000000000000), .lit (.int .u64 10000000000000000000)]
def laid_unicode_utf8_acceptRanges {H : Type} : DataW H := .agg [.agg [.lit (.int .u8 128), .lit (.int .u8 191)], .agg [.lit (.int .u8 160), .lit (.int .u8 191)], .agg [.lit (.int .u8 128), .lit (.int .u8 159)], .agg [.lit (.int .u8 144), .lit (.int .u8 191)], .agg [.lit (.int .u8 128), .lit (.int .u8 143)], .agg [.lit (.int .u8 0), .lit (.int .u8 0)], .agg [.lit (.int .u8 0), .lit (.int .u8 0)], .agg [.lit (.int .u8 0), .lit (.int .u8 0)], .agg [.lit (.int .u8 0), .lit (.int .u8 0)], .agg [.lit (.int .u8 0), .lit (.int .u8 0)], .agg [.lit (.int .u8 0), .lit (.int .u8 0)], .agg [.lit (.int .u8 0), .lit (.int .u8 0)], .agg [.lit (.int .u8 0), .lit (.int .u8 0)], .agg [.lit (.int .u8 0), .lit (.int .u8 0)], .agg [.lit (.int .u8 0), .lit (.int .u8 0)], .agg [.lit (.int .u8 0), .lit (.int .u8 0)]]
def laid_athanor_parse_typeShapes {H : Type} : DataW H := .agg [.agg [.lit (.int .i64 0), .lit (.int .i64 0), .lit (.bool false), .lit (.int .i64 0)], .agg [.lit (.int .i64 0), .lit (.int .i64 0), .lit (.bool false), .lit (.int .i64 0)], .agg [.lit (.int .i64 3), .lit (.int .i64 0), .lit (.bool false), .lit (.int .i64 0)], .agg [.lit (.int .i64 0), .lit (.int .i64 0), .lit (.bool false), .lit (.int .i64 2)], .agg [.lit (.int .i64 1), .lit (.int .i64 0), .lit (.bool false), .lit (.int .i64 (-1))]]
def laid_athanor_parse_patShapes {H : Type} : DataW H := .agg [.agg [.lit (.int .i64 0), .lit (.int .i64 0), .lit (.bool false), .lit (.int .i64 0)], .agg [.lit (.int .i64 0), .lit (.int .i64 0), .lit (.bool false), .lit (.int .i64 0)], .agg [.lit (.int .i64 1), .lit (.int .i64 0), .lit (.bool false), .lit (.int .i64 0)], .agg [.lit (.int .i64 0), .lit (.int .i64 0), .lit (.bool true), .lit (.int .i64 0)], .agg [.lit (.int .i64 2), .lit (.int .i64 0), .lit (.bool false), .lit (.int .i64 (-1))]]
def laid_athanor_parse_exprShapes {H : Type} : DataW H := .agg [.agg [.lit (.int .i64 0), .lit (.int .i64 0), .lit (.bool false), .lit (.int .i64 0)], .agg [.lit (.int .i64 1), .lit (.int .i64 0), .lit (.bool false), .lit (.int .i64 0)], .agg [.lit (.int .i64 0), .lit (.int .i64 0), .lit (.bool true), .lit (.int .i64 0)], .agg [.lit (.int .i64 1), .lit (.int .i64 0), .lit (.bool false), .lit (.int .i64 1)], .agg [.lit (.int .i64 0), .lit (.int .i64 0), .lit (.bool false), .lit (.int .i64 2)], .agg [.lit (.int .i64 1), .lit (.int .i64 0), .lit (.bool false), .lit (.int .i64 2)], .agg [.lit (.int .i64 1), .lit (.int .i64 1), .lit (.bool false), .lit (.int .i64 2)], .agg [.lit (.int .i64 0), .lit (.int .i64 0), .lit (.bool false), .lit (.int .i64 (-2))], .agg [.lit (.int .i64 2), .lit (.int .i64 0), .lit (.bool false), .lit (.int .i64 (-1))], .agg [.lit (.int .i64 6), .lit (.int .i64 0), .lit (.bool false), .lit (.int .i64 2)], .agg [.lit (.int .i64 0), .lit (.int .i64 0), .lit (.bool false), .lit (.int .i64 1)]]
/-- One of Go's own tables, pinned by name: the form's constant. -/
def laid_unicode_utf8_first : DataW Unit := Go.Pinned.utf8First

/-- 'athanorlaw12.ParseReads': WHATEVER THE INPUT: true; the input reads as it did. -/
def parseReadsSpec : ChangeSpec := { name := "parseReads", fn := fun _ => fun
  | [d] => { results := [.lit (.bool true)], args := [d] }
  | _ => none }
def parseReadsRow : OpenClaim := { program := "ytkdbgopgjbfhbaagreatdoor", sum := "7fc29fbe1dadc2719d55f4d57318d05325de6cc5983617d9597c8ed0d9f4ee37", func := "athanor/athanorlaw12.ParseReads", spec := "parseReads", unfollowed := true, recurses := true, named := ["athanor/lex.keyWords", "athanor/lex.signs"], apart := false, laid := [("athanor/lex.keyWords", laid_athanor_lex_keyWords), ("athanor/lex.signs", laid_athanor_lex_signs)] }
def ParseReadsSaid : Prop := parseReadsRow.holds Tryz.pinned (OpenSpec.ofChange parseReadsSpec)

/-- ITS FALSE NEIGHBOUR: 'it returns false'. Refute it at one input. -/
def parseReadsWrong : ChangeSpec := { name := "parseReads", fn := fun _ => fun
  | [d] => { results := [.lit (.bool false)], args := [d] }
  | _ => none }
def ParseReadsWrongFalsely : Prop := parseReadsRow.holds Tryz.pinned (OpenSpec.ofChange parseReadsWrong)

/-- 'athanorlaw12.ParseChecks': WHATEVER THE INPUT: true; the input reads as it did. -/
def parseChecksSpec : ChangeSpec := { name := "parseChecks", fn := fun _ => fun
  | [d] => { results := [.lit (.bool true)], args := [d] }
  | _ => none }
def parseChecksRow : OpenClaim := { program := "ytkdbgopgjbfhbaagreatdoor", sum := "7fc29fbe1dadc2719d55f4d57318d05325de6cc5983617d9597c8ed0d9f4ee37", func := "athanor/athanorlaw12.ParseChecks", spec := "parseChecks", inPlace := ["internal/bytealg.CountString", "internal/bytealg.IndexByteString", "internal/bytealg.IndexString", "internal/abi.NoEscape", "internal/bytealg.MakeNoZero"], unfollowed := true, recurses := true, named := ["athanor/lex.keyWords", "athanor/lex.signs", "athanor/ints.words", "internal/strconv.uint64pow10", "math/bits.deBruijn32tab", "math/bits.deBruijn64tab", "internal/bytealg.MaxLen", "unicode/utf8.first", "unicode/utf8.acceptRanges", "athanor/parse.typeShapes", "athanor/parse.exprShapes", "athanor/parse.patShapes"], loops := true, apart := false, laid := [("math/bits.deBruijn32tab", laid_math_bits_deBruijn32tab), ("math/bits.deBruijn64tab", laid_math_bits_deBruijn64tab), ("athanor/ints.words", laid_athanor_ints_words), ("internal/strconv.uint64pow10", laid_internal_strconv_uint64pow10), ("unicode/utf8.acceptRanges", laid_unicode_utf8_acceptRanges), ("athanor/lex.keyWords", laid_athanor_lex_keyWords), ("athanor/lex.signs", laid_athanor_lex_signs), ("athanor/parse.typeShapes", laid_athanor_parse_typeShapes), ("athanor/parse.patShapes", laid_athanor_parse_patShapes), ("athanor/parse.exprShapes", laid_athanor_parse_exprShapes), ("unicode/utf8.first", laid_unicode_utf8_first)] }
def ParseChecksSaid : Prop := parseChecksRow.holds Tryz.pinned (OpenSpec.ofChange parseChecksSpec)

/-- ITS FALSE NEIGHBOUR: 'it returns false'. Refute it at one input. -/
def parseChecksWrong : ChangeSpec := { name := "parseChecks", fn := fun _ => fun
  | [d] => { results := [.lit (.bool false)], args := [d] }
  | _ => none }
def ParseChecksWrongFalsely : Prop := parseChecksRow.holds Tryz.pinned (OpenSpec.ofChange parseChecksWrong)

/-- 'athanorlaw12.ParseSame': WHATEVER THE INPUT: true; the input reads as it did. -/
def parseSameSpec : ChangeSpec := { name := "parseSame", fn := fun _ => fun
  | [d1, d2] => { results := [.lit (.bool true)], args := [d1, d2] }
  | _ => none }
def parseSameRow : OpenClaim := { program := "ytkdbgopgjbfhbaagreatdoor", sum := "7fc29fbe1dadc2719d55f4d57318d05325de6cc5983617d9597c8ed0d9f4ee37", func := "athanor/athanorlaw12.ParseSame", spec := "parseSame", unfollowed := true, recurses := true, named := ["athanor/lex.keyWords", "athanor/lex.signs"], loops := true, apart := false, laid := [("athanor/lex.keyWords", laid_athanor_lex_keyWords), ("athanor/lex.signs", laid_athanor_lex_signs)] }
def ParseSameSaid : Prop := parseSameRow.holds Tryz.pinned (OpenSpec.ofChange parseSameSpec)

/-- ITS FALSE NEIGHBOUR: 'it returns false'. Refute it at one input. -/
def parseSameWrong : ChangeSpec := { name := "parseSame", fn := fun _ => fun
  | [d1, d2] => { results := [.lit (.bool false)], args := [d1, d2] }
  | _ => none }
def ParseSameWrongFalsely : Prop := parseSameRow.holds Tryz.pinned (OpenSpec.ofChange parseSameWrong)

/-- 'athanorlaw12.ParseTakes': WHATEVER THE INPUT: true; the input reads as it did. -/
def parseTakesSpec : ChangeSpec := { name := "parseTakes", fn := fun _ => fun
  | [d] => { results := [.lit (.bool true)], args := [d] }
  | _ => none }
def parseTakesRow : OpenClaim := { program := "ytkdbgopgjbfhbaagreatdoor", sum := "7fc29fbe1dadc2719d55f4d57318d05325de6cc5983617d9597c8ed0d9f4ee37", func := "athanor/athanorlaw12.ParseTakes", spec := "parseTakes", inPlace := ["internal/bytealg.CountString", "internal/bytealg.IndexByteString", "internal/bytealg.IndexString", "internal/abi.NoEscape", "internal/bytealg.MakeNoZero"], unfollowed := true, recurses := true, named := ["athanor/lex.keyWords", "athanor/lex.signs", "athanor/ints.words", "internal/strconv.uint64pow10", "math/bits.deBruijn32tab", "math/bits.deBruijn64tab", "internal/bytealg.MaxLen", "unicode/utf8.first", "unicode/utf8.acceptRanges", "athanor/parse.typeShapes", "athanor/parse.exprShapes", "athanor/parse.patShapes"], apart := false, laid := [("math/bits.deBruijn32tab", laid_math_bits_deBruijn32tab), ("math/bits.deBruijn64tab", laid_math_bits_deBruijn64tab), ("athanor/ints.words", laid_athanor_ints_words), ("internal/strconv.uint64pow10", laid_internal_strconv_uint64pow10), ("unicode/utf8.acceptRanges", laid_unicode_utf8_acceptRanges), ("athanor/lex.keyWords", laid_athanor_lex_keyWords), ("athanor/lex.signs", laid_athanor_lex_signs), ("athanor/parse.typeShapes", laid_athanor_parse_typeShapes), ("athanor/parse.patShapes", laid_athanor_parse_patShapes), ("athanor/parse.exprShapes", laid_athanor_parse_exprShapes), ("unicode/utf8.first", laid_unicode_utf8_first)] }
def ParseTakesSaid : Prop := parseTakesRow.holds Tryz.pinned (OpenSpec.ofChange parseTakesSpec)

/-- ITS FALSE NEIGHBOUR: 'it returns false'. Refute it at one input. -/
def parseTakesWrong : ChangeSpec := { name := "parseTakes", fn := fun _ => fun
  | [d] => { results := [.lit (.bool false)], args := [d] }
  | _ => none }
def ParseTakesWrongFalsely : Prop := parseTakesRow.holds Tryz.pinned (OpenSpec.ofChange parseTakesWrong)

/-- 'athanorlaw12.ParseBrackets': WHATEVER THE INPUT: true; the input reads as it did. -/
def parseBracketsSpec : ChangeSpec := { name := "parseBrackets", fn := fun _ => fun
  | [d] => { results := [.lit (.bool true)], args := [d] }
  | _ => none }
def parseBracketsRow : OpenClaim := { program := "ytkdbgopgjbfhbaagreatdoor", sum := "7fc29fbe1dadc2719d55f4d57318d05325de6cc5983617d9597c8ed0d9f4ee37", func := "athanor/athanorlaw12.ParseBrackets", spec := "parseBrackets", unfollowed := true, recurses := true, named := ["athanor/lex.keyWords", "athanor/lex.signs"], apart := false, laid := [("athanor/lex.keyWords", laid_athanor_lex_keyWords), ("athanor/lex.signs", laid_athanor_lex_signs)] }
def ParseBracketsSaid : Prop := parseBracketsRow.holds Tryz.pinned (OpenSpec.ofChange parseBracketsSpec)

/-- ITS FALSE NEIGHBOUR: 'it returns false'. Refute it at one input. -/
def parseBracketsWrong : ChangeSpec := { name := "parseBrackets", fn := fun _ => fun
  | [d] => { results := [.lit (.bool false)], args := [d] }
  | _ => none }
def ParseBracketsWrongFalsely : Prop := parseBracketsRow.holds Tryz.pinned (OpenSpec.ofChange parseBracketsWrong)

/-- 'athanorlaw12.ParseSpread': WHATEVER THE INPUT: true; the input reads as it did. -/
def parseSpreadSpec : ChangeSpec := { name := "parseSpread", fn := fun _ => fun
  | [d] => { results := [.lit (.bool true)], args := [d] }
  | _ => none }
def parseSpreadRow : OpenClaim := { program := "ytkdbgopgjbfhbaagreatdoor", sum := "7fc29fbe1dadc2719d55f4d57318d05325de6cc5983617d9597c8ed0d9f4ee37", func := "athanor/athanorlaw12.ParseSpread", spec := "parseSpread", unfollowed := true, recurses := true, named := ["athanor/lex.keyWords", "athanor/lex.signs"], apart := false, laid := [("athanor/lex.keyWords", laid_athanor_lex_keyWords), ("athanor/lex.signs", laid_athanor_lex_signs)] }
def ParseSpreadSaid : Prop := parseSpreadRow.holds Tryz.pinned (OpenSpec.ofChange parseSpreadSpec)

/-- ITS FALSE NEIGHBOUR: 'it returns false'. Refute it at one input. -/
def parseSpreadWrong : ChangeSpec := { name := "parseSpread", fn := fun _ => fun
  | [d] => { results := [.lit (.bool false)], args := [d] }
  | _ => none }
def ParseSpreadWrongFalsely : Prop := parseSpreadRow.holds Tryz.pinned (OpenSpec.ofChange parseSpreadWrong)

/- THE SECOND FORM. 'bulk': how many values and letters a reading holds, each counted each time it is reached (what is shared counts as often as it is met; a slice's spare places count too). A statement '..UptoSaid' is the law's where the arguments, and the package variables that the reading takes, are together of bulk at most 1048576: NARROWER than '..Said'. Prove '..Said' where nothing that the law and all that it calls make is longer than what came in: it says more and counts as full. Else prove '..UptoSaid'. A law counts once. -/
mutual
def uptoBulk {H : Type} : DataW H → Nat
  | .lit (.string bytes) => bytes.length + 1
  | .lit _ => 1
  | .nil => 1
  | .ptr d => uptoBulk d + 1
  | .slice elems spare => uptoBulkAll elems + uptoBulkAll spare + 1
  | .agg parts => uptoBulkAll parts + 1
  | .iface _ d => uptoBulk d + 1
  | .map entries => uptoBulkEntries entries + 1
  | .held _ => 1
def uptoBulkAll {H : Type} : List (DataW H) → Nat
  | [] => 0
  | d :: r => uptoBulk d + uptoBulkAll r
def uptoBulkEntries {H : Type} : List (Lit × DataW H) → Nat
  | [] => 0
  | x :: r => uptoBulkEntry x + uptoBulkEntries r
def uptoBulkEntry {H : Type} : Lit × DataW H → Nat
  | (.string bytes, d) => bytes.length + uptoBulk d + 1
  | (_, d) => uptoBulk d + 1
 end
def uptoSmall : (H : Type) → List (DataW H) → Bool := fun _ ds => decide (uptoBulkAll ds ≤ 1048576)
def OpenSpec.upto (s : _root_.Go.ChangeSpec) : _root_.Go.OpenSpec := { _root_.Go.OpenSpec.ofChange s with cond := some uptoSmall }

/-- 'athanorlaw12.ParseReads', WHERE WHAT IT READS IS OF BULK AT MOST 1048576: true; the input reads as it did. -/
def parseReadsUptoRow : OpenClaim := { program := "ytkdbgopgjbfhbaagreatdoor", sum := "7fc29fbe1dadc2719d55f4d57318d05325de6cc5983617d9597c8ed0d9f4ee37", func := "athanor/athanorlaw12.ParseReads", spec := "parseReads", unfollowed := true, recurses := true, named := ["athanor/lex.keyWords", "athanor/lex.signs"], apart := false, laid := [("athanor/lex.keyWords", laid_athanor_lex_keyWords), ("athanor/lex.signs", laid_athanor_lex_signs)], narrowed := true }
def ParseReadsUptoSaid : Prop := parseReadsUptoRow.holds Tryz.pinned (OpenSpec.upto parseReadsSpec)

/-- 'athanorlaw12.ParseChecks', WHERE WHAT IT READS IS OF BULK AT MOST 1048576: true; the input reads as it did. -/
def parseChecksUptoRow : OpenClaim := { program := "ytkdbgopgjbfhbaagreatdoor", sum := "7fc29fbe1dadc2719d55f4d57318d05325de6cc5983617d9597c8ed0d9f4ee37", func := "athanor/athanorlaw12.ParseChecks", spec := "parseChecks", inPlace := ["internal/bytealg.CountString", "internal/bytealg.IndexByteString", "internal/bytealg.IndexString", "internal/abi.NoEscape", "internal/bytealg.MakeNoZero"], unfollowed := true, recurses := true, named := ["athanor/lex.keyWords", "athanor/lex.signs", "athanor/ints.words", "internal/strconv.uint64pow10", "math/bits.deBruijn32tab", "math/bits.deBruijn64tab", "internal/bytealg.MaxLen", "unicode/utf8.first", "unicode/utf8.acceptRanges", "athanor/parse.typeShapes", "athanor/parse.exprShapes", "athanor/parse.patShapes"], loops := true, apart := false, laid := [("math/bits.deBruijn32tab", laid_math_bits_deBruijn32tab), ("math/bits.deBruijn64tab", laid_math_bits_deBruijn64tab), ("athanor/ints.words", laid_athanor_ints_words), ("internal/strconv.uint64pow10", laid_internal_strconv_uint64pow10), ("unicode/utf8.acceptRanges", laid_unicode_utf8_acceptRanges), ("athanor/lex.keyWords", laid_athanor_lex_keyWords), ("athanor/lex.signs", laid_athanor_lex_signs), ("athanor/parse.typeShapes", laid_athanor_parse_typeShapes), ("athanor/parse.patShapes", laid_athanor_parse_patShapes), ("athanor/parse.exprShapes", laid_athanor_parse_exprShapes), ("unicode/utf8.first", laid_unicode_utf8_first)], narrowed := true }
def ParseChecksUptoSaid : Prop := parseChecksUptoRow.holds Tryz.pinned (OpenSpec.upto parseChecksSpec)

/-- 'athanorlaw12.ParseSame', WHERE WHAT IT READS IS OF BULK AT MOST 1048576: true; the input reads as it did. -/
def parseSameUptoRow : OpenClaim := { program := "ytkdbgopgjbfhbaagreatdoor", sum := "7fc29fbe1dadc2719d55f4d57318d05325de6cc5983617d9597c8ed0d9f4ee37", func := "athanor/athanorlaw12.ParseSame", spec := "parseSame", unfollowed := true, recurses := true, named := ["athanor/lex.keyWords", "athanor/lex.signs"], loops := true, apart := false, laid := [("athanor/lex.keyWords", laid_athanor_lex_keyWords), ("athanor/lex.signs", laid_athanor_lex_signs)], narrowed := true }
def ParseSameUptoSaid : Prop := parseSameUptoRow.holds Tryz.pinned (OpenSpec.upto parseSameSpec)

/-- 'athanorlaw12.ParseTakes', WHERE WHAT IT READS IS OF BULK AT MOST 1048576: true; the input reads as it did. -/
def parseTakesUptoRow : OpenClaim := { program := "ytkdbgopgjbfhbaagreatdoor", sum := "7fc29fbe1dadc2719d55f4d57318d05325de6cc5983617d9597c8ed0d9f4ee37", func := "athanor/athanorlaw12.ParseTakes", spec := "parseTakes", inPlace := ["internal/bytealg.CountString", "internal/bytealg.IndexByteString", "internal/bytealg.IndexString", "internal/abi.NoEscape", "internal/bytealg.MakeNoZero"], unfollowed := true, recurses := true, named := ["athanor/lex.keyWords", "athanor/lex.signs", "athanor/ints.words", "internal/strconv.uint64pow10", "math/bits.deBruijn32tab", "math/bits.deBruijn64tab", "internal/bytealg.MaxLen", "unicode/utf8.first", "unicode/utf8.acceptRanges", "athanor/parse.typeShapes", "athanor/parse.exprShapes", "athanor/parse.patShapes"], apart := false, laid := [("math/bits.deBruijn32tab", laid_math_bits_deBruijn32tab), ("math/bits.deBruijn64tab", laid_math_bits_deBruijn64tab), ("athanor/ints.words", laid_athanor_ints_words), ("internal/strconv.uint64pow10", laid_internal_strconv_uint64pow10), ("unicode/utf8.acceptRanges", laid_unicode_utf8_acceptRanges), ("athanor/lex.keyWords", laid_athanor_lex_keyWords), ("athanor/lex.signs", laid_athanor_lex_signs), ("athanor/parse.typeShapes", laid_athanor_parse_typeShapes), ("athanor/parse.patShapes", laid_athanor_parse_patShapes), ("athanor/parse.exprShapes", laid_athanor_parse_exprShapes), ("unicode/utf8.first", laid_unicode_utf8_first)], narrowed := true }
def ParseTakesUptoSaid : Prop := parseTakesUptoRow.holds Tryz.pinned (OpenSpec.upto parseTakesSpec)

/-- 'athanorlaw12.ParseBrackets', WHERE WHAT IT READS IS OF BULK AT MOST 1048576: true; the input reads as it did. -/
def parseBracketsUptoRow : OpenClaim := { program := "ytkdbgopgjbfhbaagreatdoor", sum := "7fc29fbe1dadc2719d55f4d57318d05325de6cc5983617d9597c8ed0d9f4ee37", func := "athanor/athanorlaw12.ParseBrackets", spec := "parseBrackets", unfollowed := true, recurses := true, named := ["athanor/lex.keyWords", "athanor/lex.signs"], apart := false, laid := [("athanor/lex.keyWords", laid_athanor_lex_keyWords), ("athanor/lex.signs", laid_athanor_lex_signs)], narrowed := true }
def ParseBracketsUptoSaid : Prop := parseBracketsUptoRow.holds Tryz.pinned (OpenSpec.upto parseBracketsSpec)

/-- 'athanorlaw12.ParseSpread', WHERE WHAT IT READS IS OF BULK AT MOST 1048576: true; the input reads as it did. -/
def parseSpreadUptoRow : OpenClaim := { program := "ytkdbgopgjbfhbaagreatdoor", sum := "7fc29fbe1dadc2719d55f4d57318d05325de6cc5983617d9597c8ed0d9f4ee37", func := "athanor/athanorlaw12.ParseSpread", spec := "parseSpread", unfollowed := true, recurses := true, named := ["athanor/lex.keyWords", "athanor/lex.signs"], apart := false, laid := [("athanor/lex.keyWords", laid_athanor_lex_keyWords), ("athanor/lex.signs", laid_athanor_lex_signs)], narrowed := true }
def ParseSpreadUptoSaid : Prop := parseSpreadUptoRow.holds Tryz.pinned (OpenSpec.upto parseSpreadSpec)

end Rows
end Go.Proofs.YtkdbgopgjbfhbaaGreatDoor
