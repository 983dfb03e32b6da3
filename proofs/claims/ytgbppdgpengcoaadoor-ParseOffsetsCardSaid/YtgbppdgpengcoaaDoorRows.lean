/-
  NARROWER THAN 'FOR EVERY INPUT', by the rows' own cells (each row's printed sentence says how): ParseMatchesReference: laid · ParseCountMatchesReference: loops, laid · ParseLimits: laid · ParseConcatenation: laid · ParseManyNodes: laid · ParseOffsets: laid.
  DERIVED. THE GIVEN ROWS OF THIS SEAT. 6 by the template 'for every input the law returns true; each argument reads behind the call as it read before'; 0 by the template 'total and deterministic' (their statements: YtgbppdgpengcoaaDoorTotals.lean).
  GIVEN WITH THE SEED: the statements are not yours to turn. If you find one false, say at which input.
  Laid BY PROGRAM, IN A SANDBOX (cutbox-rows.mjs): the forced cells as the released guide's own fill.sh prints them over the translation 95ef7aaf6de35745… (all of the seat's roots in one cut). By AI agents, Wed Nov 11 2026. No macro, syntax, notation, axiom, sorry.
-/
import Derived.Test.YtgbppdgpengcoaaDoorChecked
import GoSem.PinnedTables
import GoSem.Claim
import GoSem.ClaimJoined
import GoSem.ClaimMapViews
import Derived.JoinedTies
import Derived.KernelRfl
namespace Go.Proofs.YtgbppdgpengcoaaDoor
/- THE CELL 'sum', in the pinned program and in every row, IS THE sha256 OF THE DUMP (.gsa) THAT YtgbppdgpengcoaaDoorProg.lean LOADS. Nothing in Lean hashes anything: it is a label: what it is worth is what the hold of that sum in a sandbox is worth. -/
noncomputable def Tryd.pinned : Pinned := { name := "ytgbppdgpengcoaadoor", sum := "95ef7aaf6de357456e51f182e10f4e13a1705bb9269af5fdddad00070835b46b", checked := Tryd.checked }
namespace Rows
def none {H : Type} : Left H := { results := [], args := [] }

/- WHAT THE LISTED PACKAGE-LEVEL VARIABLES READ AS WHEN THE CALL BEGINS. Each datum BY PROGRAM (the guide's laid-datum.mjs) off the statement by which the dump's own 'gosem.cut.vars' lays the variable. In a bare row this is a premise. The card (YtgbppdgpengcoaaDoorCards.lean) ties it to the program's text. -/
def laid_unicode_utf8_acceptRanges {H : Type} : DataW H := .agg [.agg [.lit (.int .u8 128), .lit (.int .u8 191)], .agg [.lit (.int .u8 160), .lit (.int .u8 191)], .agg [.lit (.int .u8 128), .lit (.int .u8 159)], .agg [.lit (.int .u8 144), .lit (.int .u8 191)], .agg [.lit (.int .u8 128), .lit (.int .u8 143)], .agg [.lit (.int .u8 0), .lit (.int .u8 0)], .agg [.lit (.int .u8 0), .lit (.int .u8 0)], .agg [.lit (.int .u8 0), .lit (.int .u8 0)], .agg [.lit (.int .u8 0), .lit (.int .u8 0)], .agg [.lit (.int .u8 0), .lit (.int .u8 0)], .agg [.lit (.int .u8 0), .lit (.int .u8 0)], .agg [.lit (.int .u8 0), .lit (.int .u8 0)], .agg [.lit (.int .u8 0), .lit (.int .u8 0)], .agg [.lit (.int .u8 0), .lit (.int .u8 0)], .agg [.lit (.int .u8 0), .lit (.int .u8 0)], .agg [.lit (.int .u8 0), .lit (.int .u8 0)]]
/-- One of Go's own tables, pinned by name: the form's constant. -/
def laid_unicode_utf8_first : DataW Unit := Go.Pinned.utf8First

/-- 'tmplpipelaw12.ParseMatchesReference': WHATEVER THE INPUT: true; the input reads as it did. -/
def parseMatchesReferenceSpec : ChangeSpec := { name := "parseMatchesReference", fn := fun _ => fun
  | [d] => { results := [.lit (.bool true)], args := [d] }
  | _ => none }
def parseMatchesReferenceRow : OpenClaim := { program := "ytgbppdgpengcoaadoor", sum := "95ef7aaf6de357456e51f182e10f4e13a1705bb9269af5fdddad00070835b46b", func := "tmplpipe/tmplpipelaw12.ParseMatchesReference", spec := "parseMatchesReference", inPlace := ["internal/bytealg.IndexByteString", "internal/bytealg.IndexString", "internal/abi.NoEscape", "internal/bytealg.MakeNoZero", "internal/bytealg.CountString"], unfollowed := true, recurses := true, named := ["internal/bytealg.MaxLen", "unicode/utf8.first", "unicode/utf8.acceptRanges"], apart := false, laid := [("unicode/utf8.acceptRanges", laid_unicode_utf8_acceptRanges), ("unicode/utf8.first", laid_unicode_utf8_first)] }
def ParseMatchesReferenceSaid : Prop := parseMatchesReferenceRow.holds Tryd.pinned (OpenSpec.ofChange parseMatchesReferenceSpec)

/-- ITS FALSE NEIGHBOUR: 'it returns false'. Refute it at one input. -/
def parseMatchesReferenceWrong : ChangeSpec := { name := "parseMatchesReference", fn := fun _ => fun
  | [d] => { results := [.lit (.bool false)], args := [d] }
  | _ => none }
def ParseMatchesReferenceWrongFalsely : Prop := parseMatchesReferenceRow.holds Tryd.pinned (OpenSpec.ofChange parseMatchesReferenceWrong)

/-- 'tmplpipelaw12.ParseCountMatchesReference': WHATEVER THE INPUT: true; the input reads as it did. -/
def parseCountMatchesReferenceSpec : ChangeSpec := { name := "parseCountMatchesReference", fn := fun _ => fun
  | [d] => { results := [.lit (.bool true)], args := [d] }
  | _ => none }
def parseCountMatchesReferenceRow : OpenClaim := { program := "ytgbppdgpengcoaadoor", sum := "95ef7aaf6de357456e51f182e10f4e13a1705bb9269af5fdddad00070835b46b", func := "tmplpipe/tmplpipelaw12.ParseCountMatchesReference", spec := "parseCountMatchesReference", inPlace := ["internal/bytealg.IndexByteString", "internal/bytealg.IndexString", "internal/abi.NoEscape", "internal/bytealg.MakeNoZero", "internal/bytealg.CountString"], unfollowed := true, recurses := true, named := ["internal/bytealg.MaxLen", "unicode/utf8.first", "unicode/utf8.acceptRanges"], loops := true, apart := false, laid := [("unicode/utf8.acceptRanges", laid_unicode_utf8_acceptRanges), ("unicode/utf8.first", laid_unicode_utf8_first)] }
def ParseCountMatchesReferenceSaid : Prop := parseCountMatchesReferenceRow.holds Tryd.pinned (OpenSpec.ofChange parseCountMatchesReferenceSpec)

/-- ITS FALSE NEIGHBOUR: 'it returns false'. Refute it at one input. -/
def parseCountMatchesReferenceWrong : ChangeSpec := { name := "parseCountMatchesReference", fn := fun _ => fun
  | [d] => { results := [.lit (.bool false)], args := [d] }
  | _ => none }
def ParseCountMatchesReferenceWrongFalsely : Prop := parseCountMatchesReferenceRow.holds Tryd.pinned (OpenSpec.ofChange parseCountMatchesReferenceWrong)

/-- 'tmplpipelaw12.ParseLimits': WHATEVER THE INPUT: true; the input reads as it did. -/
def parseLimitsSpec : ChangeSpec := { name := "parseLimits", fn := fun _ => fun
  | [d1, d2] => { results := [.lit (.bool true)], args := [d1, d2] }
  | _ => none }
def parseLimitsRow : OpenClaim := { program := "ytgbppdgpengcoaadoor", sum := "95ef7aaf6de357456e51f182e10f4e13a1705bb9269af5fdddad00070835b46b", func := "tmplpipe/tmplpipelaw12.ParseLimits", spec := "parseLimits", inPlace := ["internal/abi.NoEscape", "internal/bytealg.MakeNoZero", "internal/bytealg.IndexByteString", "internal/bytealg.IndexString", "internal/bytealg.CountString"], unfollowed := true, recurses := true, named := ["internal/bytealg.MaxLen", "unicode/utf8.first", "unicode/utf8.acceptRanges"], apart := false, laid := [("unicode/utf8.acceptRanges", laid_unicode_utf8_acceptRanges), ("unicode/utf8.first", laid_unicode_utf8_first)] }
def ParseLimitsSaid : Prop := parseLimitsRow.holds Tryd.pinned (OpenSpec.ofChange parseLimitsSpec)

/-- ITS FALSE NEIGHBOUR: 'it returns false'. Refute it at one input. -/
def parseLimitsWrong : ChangeSpec := { name := "parseLimits", fn := fun _ => fun
  | [d1, d2] => { results := [.lit (.bool false)], args := [d1, d2] }
  | _ => none }
def ParseLimitsWrongFalsely : Prop := parseLimitsRow.holds Tryd.pinned (OpenSpec.ofChange parseLimitsWrong)

/-- 'tmplpipelaw12.ParseConcatenation': WHATEVER THE INPUT: true; the input reads as it did. -/
def parseConcatenationSpec : ChangeSpec := { name := "parseConcatenation", fn := fun _ => fun
  | [d1, d2] => { results := [.lit (.bool true)], args := [d1, d2] }
  | _ => none }
def parseConcatenationRow : OpenClaim := { program := "ytgbppdgpengcoaadoor", sum := "95ef7aaf6de357456e51f182e10f4e13a1705bb9269af5fdddad00070835b46b", func := "tmplpipe/tmplpipelaw12.ParseConcatenation", spec := "parseConcatenation", inPlace := ["internal/bytealg.IndexByteString", "internal/bytealg.IndexString", "internal/abi.NoEscape", "internal/bytealg.MakeNoZero", "internal/bytealg.CountString"], unfollowed := true, recurses := true, named := ["internal/bytealg.MaxLen", "unicode/utf8.first", "unicode/utf8.acceptRanges"], apart := false, laid := [("unicode/utf8.acceptRanges", laid_unicode_utf8_acceptRanges), ("unicode/utf8.first", laid_unicode_utf8_first)] }
def ParseConcatenationSaid : Prop := parseConcatenationRow.holds Tryd.pinned (OpenSpec.ofChange parseConcatenationSpec)

/-- ITS FALSE NEIGHBOUR: 'it returns false'. Refute it at one input. -/
def parseConcatenationWrong : ChangeSpec := { name := "parseConcatenation", fn := fun _ => fun
  | [d1, d2] => { results := [.lit (.bool false)], args := [d1, d2] }
  | _ => none }
def ParseConcatenationWrongFalsely : Prop := parseConcatenationRow.holds Tryd.pinned (OpenSpec.ofChange parseConcatenationWrong)

/-- 'tmplpipelaw12.ParseManyNodes': WHATEVER THE INPUT: true; the input reads as it did. -/
def parseManyNodesSpec : ChangeSpec := { name := "parseManyNodes", fn := fun _ => fun
  | [d] => { results := [.lit (.bool true)], args := [d] }
  | _ => none }
def parseManyNodesRow : OpenClaim := { program := "ytgbppdgpengcoaadoor", sum := "95ef7aaf6de357456e51f182e10f4e13a1705bb9269af5fdddad00070835b46b", func := "tmplpipe/tmplpipelaw12.ParseManyNodes", spec := "parseManyNodes", inPlace := ["internal/abi.NoEscape", "internal/bytealg.MakeNoZero", "internal/bytealg.IndexByteString", "internal/bytealg.IndexString", "internal/bytealg.CountString"], unfollowed := true, recurses := true, named := ["internal/bytealg.MaxLen", "unicode/utf8.first", "unicode/utf8.acceptRanges"], apart := false, laid := [("unicode/utf8.acceptRanges", laid_unicode_utf8_acceptRanges), ("unicode/utf8.first", laid_unicode_utf8_first)] }
def ParseManyNodesSaid : Prop := parseManyNodesRow.holds Tryd.pinned (OpenSpec.ofChange parseManyNodesSpec)

/-- ITS FALSE NEIGHBOUR: 'it returns false'. Refute it at one input. -/
def parseManyNodesWrong : ChangeSpec := { name := "parseManyNodes", fn := fun _ => fun
  | [d] => { results := [.lit (.bool false)], args := [d] }
  | _ => none }
def ParseManyNodesWrongFalsely : Prop := parseManyNodesRow.holds Tryd.pinned (OpenSpec.ofChange parseManyNodesWrong)

/-- 'tmplpipelaw12.ParseOffsets': WHATEVER THE INPUT: true; the input reads as it did. -/
def parseOffsetsSpec : ChangeSpec := { name := "parseOffsets", fn := fun _ => fun
  | [d] => { results := [.lit (.bool true)], args := [d] }
  | _ => none }
def parseOffsetsRow : OpenClaim := { program := "ytgbppdgpengcoaadoor", sum := "95ef7aaf6de357456e51f182e10f4e13a1705bb9269af5fdddad00070835b46b", func := "tmplpipe/tmplpipelaw12.ParseOffsets", spec := "parseOffsets", inPlace := ["internal/bytealg.IndexByteString", "internal/bytealg.IndexString", "internal/abi.NoEscape", "internal/bytealg.MakeNoZero", "internal/bytealg.CountString"], unfollowed := true, recurses := true, named := ["internal/bytealg.MaxLen", "unicode/utf8.first", "unicode/utf8.acceptRanges"], apart := false, laid := [("unicode/utf8.acceptRanges", laid_unicode_utf8_acceptRanges), ("unicode/utf8.first", laid_unicode_utf8_first)] }
def ParseOffsetsSaid : Prop := parseOffsetsRow.holds Tryd.pinned (OpenSpec.ofChange parseOffsetsSpec)

/-- ITS FALSE NEIGHBOUR: 'it returns false'. Refute it at one input. -/
def parseOffsetsWrong : ChangeSpec := { name := "parseOffsets", fn := fun _ => fun
  | [d] => { results := [.lit (.bool false)], args := [d] }
  | _ => none }
def ParseOffsetsWrongFalsely : Prop := parseOffsetsRow.holds Tryd.pinned (OpenSpec.ofChange parseOffsetsWrong)

/- THE SECOND FORM. 'bulk': how many values and letters a reading holds, each counted each time it is reached (what is shared counts as often as it is met; a slice's spare places count too). A statement '..UptoSaid' is the law's where the arguments, and the package variables that the reading takes, are together of bulk at most 1048576: NARROWER than '..Said'. Prove '..Said' where nothing that the law and all that it calls make is longer than what came in: it says more and counts as full. Else prove '..UptoSaid'. A law counts once. -/
mutual
def uptoBulk {H : Type} : DataW H → Nat
  | .lit (.string bytes) => bytes.length + 1
  | .lit _ => 1
  | .nil => 1
  | .ptr d => uptoBulk d + 1
  | .slice elems spare => uptoBulkAll elems + uptoBulkAll spare + 1
  | .agg parts => uptoBulkAll parts + 1
  | .iface _ d => uptoBulk d + 1
  | .map entries => uptoBulkEntries entries + 1
  | .held _ => 1
def uptoBulkAll {H : Type} : List (DataW H) → Nat
  | [] => 0
  | d :: r => uptoBulk d + uptoBulkAll r
def uptoBulkEntries {H : Type} : List (Lit × DataW H) → Nat
  | [] => 0
  | x :: r => uptoBulkEntry x + uptoBulkEntries r
def uptoBulkEntry {H : Type} : Lit × DataW H → Nat
  | (.string bytes, d) => bytes.length + uptoBulk d + 1
  | (_, d) => uptoBulk d + 1
 end
def uptoSmall : (H : Type) → List (DataW H) → Bool := fun _ ds => decide (uptoBulkAll ds ≤ 1048576)
def OpenSpec.upto (s : _root_.Go.ChangeSpec) : _root_.Go.OpenSpec := { _root_.Go.OpenSpec.ofChange s with cond := some uptoSmall }

/-- 'tmplpipelaw12.ParseMatchesReference', WHERE WHAT IT READS IS OF BULK AT MOST 1048576: true; the input reads as it did. -/
def parseMatchesReferenceUptoRow : OpenClaim := { program := "ytgbppdgpengcoaadoor", sum := "95ef7aaf6de357456e51f182e10f4e13a1705bb9269af5fdddad00070835b46b", func := "tmplpipe/tmplpipelaw12.ParseMatchesReference", spec := "parseMatchesReference", inPlace := ["internal/bytealg.IndexByteString", "internal/bytealg.IndexString", "internal/abi.NoEscape", "internal/bytealg.MakeNoZero", "internal/bytealg.CountString"], unfollowed := true, recurses := true, named := ["internal/bytealg.MaxLen", "unicode/utf8.first", "unicode/utf8.acceptRanges"], apart := false, laid := [("unicode/utf8.acceptRanges", laid_unicode_utf8_acceptRanges), ("unicode/utf8.first", laid_unicode_utf8_first)], narrowed := true }
def ParseMatchesReferenceUptoSaid : Prop := parseMatchesReferenceUptoRow.holds Tryd.pinned (OpenSpec.upto parseMatchesReferenceSpec)

/-- 'tmplpipelaw12.ParseCountMatchesReference', WHERE WHAT IT READS IS OF BULK AT MOST 1048576: true; the input reads as it did. -/
def parseCountMatchesReferenceUptoRow : OpenClaim := { program := "ytgbppdgpengcoaadoor", sum := "95ef7aaf6de357456e51f182e10f4e13a1705bb9269af5fdddad00070835b46b", func := "tmplpipe/tmplpipelaw12.ParseCountMatchesReference", spec := "parseCountMatchesReference", inPlace := ["internal/bytealg.IndexByteString", "internal/bytealg.IndexString", "internal/abi.NoEscape", "internal/bytealg.MakeNoZero", "internal/bytealg.CountString"], unfollowed := true, recurses := true, named := ["internal/bytealg.MaxLen", "unicode/utf8.first", "unicode/utf8.acceptRanges"], loops := true, apart := false, laid := [("unicode/utf8.acceptRanges", laid_unicode_utf8_acceptRanges), ("unicode/utf8.first", laid_unicode_utf8_first)], narrowed := true }
def ParseCountMatchesReferenceUptoSaid : Prop := parseCountMatchesReferenceUptoRow.holds Tryd.pinned (OpenSpec.upto parseCountMatchesReferenceSpec)

/-- 'tmplpipelaw12.ParseLimits', WHERE WHAT IT READS IS OF BULK AT MOST 1048576: true; the input reads as it did. -/
def parseLimitsUptoRow : OpenClaim := { program := "ytgbppdgpengcoaadoor", sum := "95ef7aaf6de357456e51f182e10f4e13a1705bb9269af5fdddad00070835b46b", func := "tmplpipe/tmplpipelaw12.ParseLimits", spec := "parseLimits", inPlace := ["internal/abi.NoEscape", "internal/bytealg.MakeNoZero", "internal/bytealg.IndexByteString", "internal/bytealg.IndexString", "internal/bytealg.CountString"], unfollowed := true, recurses := true, named := ["internal/bytealg.MaxLen", "unicode/utf8.first", "unicode/utf8.acceptRanges"], apart := false, laid := [("unicode/utf8.acceptRanges", laid_unicode_utf8_acceptRanges), ("unicode/utf8.first", laid_unicode_utf8_first)], narrowed := true }
def ParseLimitsUptoSaid : Prop := parseLimitsUptoRow.holds Tryd.pinned (OpenSpec.upto parseLimitsSpec)

/-- 'tmplpipelaw12.ParseConcatenation', WHERE WHAT IT READS IS OF BULK AT MOST 1048576: true; the input reads as it did. -/
def parseConcatenationUptoRow : OpenClaim := { program := "ytgbppdgpengcoaadoor", sum := "95ef7aaf6de357456e51f182e10f4e13a1705bb9269af5fdddad00070835b46b", func := "tmplpipe/tmplpipelaw12.ParseConcatenation", spec := "parseConcatenation", inPlace := ["internal/bytealg.IndexByteString", "internal/bytealg.IndexString", "internal/abi.NoEscape", "internal/bytealg.MakeNoZero", "internal/bytealg.CountString"], unfollowed := true, recurses := true, named := ["internal/bytealg.MaxLen", "unicode/utf8.first", "unicode/utf8.acceptRanges"], apart := false, laid := [("unicode/utf8.acceptRanges", laid_unicode_utf8_acceptRanges), ("unicode/utf8.first", laid_unicode_utf8_first)], narrowed := true }
def ParseConcatenationUptoSaid : Prop := parseConcatenationUptoRow.holds Tryd.pinned (OpenSpec.upto parseConcatenationSpec)

/-- 'tmplpipelaw12.ParseManyNodes', WHERE WHAT IT READS IS OF BULK AT MOST 1048576: true; the input reads as it did. -/
def parseManyNodesUptoRow : OpenClaim := { program := "ytgbppdgpengcoaadoor", sum := "95ef7aaf6de357456e51f182e10f4e13a1705bb9269af5fdddad00070835b46b", func := "tmplpipe/tmplpipelaw12.ParseManyNodes", spec := "parseManyNodes", inPlace := ["internal/abi.NoEscape", "internal/bytealg.MakeNoZero", "internal/bytealg.IndexByteString", "internal/bytealg.IndexString", "internal/bytealg.CountString"], unfollowed := true, recurses := true, named := ["internal/bytealg.MaxLen", "unicode/utf8.first", "unicode/utf8.acceptRanges"], apart := false, laid := [("unicode/utf8.acceptRanges", laid_unicode_utf8_acceptRanges), ("unicode/utf8.first", laid_unicode_utf8_first)], narrowed := true }
def ParseManyNodesUptoSaid : Prop := parseManyNodesUptoRow.holds Tryd.pinned (OpenSpec.upto parseManyNodesSpec)

/-- 'tmplpipelaw12.ParseOffsets', WHERE WHAT IT READS IS OF BULK AT MOST 1048576: true; the input reads as it did. -/
def parseOffsetsUptoRow : OpenClaim := { program := "ytgbppdgpengcoaadoor", sum := "95ef7aaf6de357456e51f182e10f4e13a1705bb9269af5fdddad00070835b46b", func := "tmplpipe/tmplpipelaw12.ParseOffsets", spec := "parseOffsets", inPlace := ["internal/bytealg.IndexByteString", "internal/bytealg.IndexString", "internal/abi.NoEscape", "internal/bytealg.MakeNoZero", "internal/bytealg.CountString"], unfollowed := true, recurses := true, named := ["internal/bytealg.MaxLen", "unicode/utf8.first", "unicode/utf8.acceptRanges"], apart := false, laid := [("unicode/utf8.acceptRanges", laid_unicode_utf8_acceptRanges), ("unicode/utf8.first", laid_unicode_utf8_first)], narrowed := true }
def ParseOffsetsUptoSaid : Prop := parseOffsetsUptoRow.holds Tryd.pinned (OpenSpec.upto parseOffsetsSpec)

end Rows
end Go.Proofs.YtgbppdgpengcoaaDoor
