/-
  NARROWER THAN 'FOR EVERY INPUT', by the rows' own cells (each row's printed sentence says how): LexMatchesReference: laid · LexFormatRoundTrip: laid · LexTextIsLiteral: laid · LexOffsets: laid · LexConcatenation: laid.
  DERIVED. THE GIVEN ROWS OF THIS SEAT. 5 by the template 'for every input the law returns true; each argument reads behind the call as it read before'; 0 by the template 'total and deterministic' (their statements: YtkiefgifbkpcfaaDoorTotals.lean).
  GIVEN WITH THE SEED: the statements are not yours to turn. If you find one false, say at which input.
  Laid BY PROGRAM, IN A SANDBOX (cutbox-rows.mjs): the forced cells as the released guide's own fill.sh prints them over the translation 4969da6ce78efb6e… (all of the seat's roots in one cut). By AI agents, Wed Nov 11 2026. No macro, syntax, notation, axiom, sorry.
-/
import Derived.Test.YtkiefgifbkpcfaaDoorChecked
import GoSem.PinnedTables
import GoSem.Claim
import GoSem.ClaimJoined
import GoSem.ClaimMapViews
import Derived.JoinedTies
import Derived.KernelRfl
namespace Go.Proofs.YtkiefgifbkpcfaaDoor
/- THE CELL 'sum', in the pinned program and in every row, IS THE sha256 OF THE DUMP (.gsa) THAT YtkiefgifbkpcfaaDoorProg.lean LOADS. Nothing in Lean hashes anything: it is a label: what it is worth is what the hold of that sum in a sandbox is worth. -/
noncomputable def Tryd.pinned : Pinned := { name := "ytkiefgifbkpcfaadoor", sum := "4969da6ce78efb6ed175605a8f1e6981f8b20db2c9407708479f5cca2045629c", checked := Tryd.checked }
namespace Rows
def none {H : Type} : Left H := { results := [], args := [] }

/- WHAT THE LISTED PACKAGE-LEVEL VARIABLES READ AS WHEN THE CALL BEGINS. Each datum BY PROGRAM (the guide's laid-datum.mjs) off the statement by which the dump's own 'gosem.cut.vars' lays the variable. In a bare row this is a premise. The card (YtkiefgifbkpcfaaDoorCards.lean) ties it to the program's text. -/
def laid_unicode_utf8_acceptRanges {H : Type} : DataW H := .agg [.agg [.lit (.int .u8 128), .lit (.int .u8 191)], .agg [.lit (.int .u8 160), .lit (.int .u8 191)], .agg [.lit (.int .u8 128), .lit (.int .u8 159)], .agg [.lit (.int .u8 144), .lit (.int .u8 191)], .agg [.lit (.int .u8 128), .lit (.int .u8 143)], .agg [.lit (.int .u8 0), .lit (.int .u8 0)], .agg [.lit (.int .u8 0), .lit (.int .u8 0)], .agg [.lit (.int .u8 0), .lit (.int .u8 0)], .agg [.lit (.int .u8 0), .lit (.int .u8 0)], .agg [.lit (.int .u8 0), .lit (.int .u8 0)], .agg [.lit (.int .u8 0), .lit (.int .u8 0)], .agg [.lit (.int .u8 0), .lit (.int .u8 0)], .agg [.lit (.int .u8 0), .lit (.int .u8 0)], .agg [.lit (.int .u8 0), .lit (.int .u8 0)], .agg [.lit (.int .u8 0), .lit (.int .u8 0)], .agg [.lit (.int .u8 0), .lit (.int .u8 0)]]
/-- One of Go's own tables, pinned by name: the form's constant. -/
def laid_unicode_utf8_first : DataW Unit := Go.Pinned.utf8First

/-- 'tmplpipelaw11.LexMatchesReference': WHATEVER THE INPUT: true; the input reads as it did. -/
def lexMatchesReferenceSpec : ChangeSpec := { name := "lexMatchesReference", fn := fun _ => fun
  | [d] => { results := [.lit (.bool true)], args := [d] }
  | _ => none }
def lexMatchesReferenceRow : OpenClaim := { program := "ytkiefgifbkpcfaadoor", sum := "4969da6ce78efb6ed175605a8f1e6981f8b20db2c9407708479f5cca2045629c", func := "tmplpipe/tmplpipelaw11.LexMatchesReference", spec := "lexMatchesReference", inPlace := ["internal/bytealg.IndexByteString", "internal/bytealg.IndexString", "internal/abi.NoEscape", "internal/bytealg.MakeNoZero", "internal/bytealg.CountString"], unfollowed := true, recurses := true, named := ["internal/bytealg.MaxLen", "unicode/utf8.first", "unicode/utf8.acceptRanges"], apart := false, laid := [("unicode/utf8.acceptRanges", laid_unicode_utf8_acceptRanges), ("unicode/utf8.first", laid_unicode_utf8_first)] }
def LexMatchesReferenceSaid : Prop := lexMatchesReferenceRow.holds Tryd.pinned (OpenSpec.ofChange lexMatchesReferenceSpec)

/-- ITS FALSE NEIGHBOUR: 'it returns false'. Refute it at one input. -/
def lexMatchesReferenceWrong : ChangeSpec := { name := "lexMatchesReference", fn := fun _ => fun
  | [d] => { results := [.lit (.bool false)], args := [d] }
  | _ => none }
def LexMatchesReferenceWrongFalsely : Prop := lexMatchesReferenceRow.holds Tryd.pinned (OpenSpec.ofChange lexMatchesReferenceWrong)

/-- 'tmplpipelaw11.LexFormatRoundTrip': WHATEVER THE INPUT: true; the input reads as it did. -/
def lexFormatRoundTripSpec : ChangeSpec := { name := "lexFormatRoundTrip", fn := fun _ => fun
  | [d] => { results := [.lit (.bool true)], args := [d] }
  | _ => none }
def lexFormatRoundTripRow : OpenClaim := { program := "ytkiefgifbkpcfaadoor", sum := "4969da6ce78efb6ed175605a8f1e6981f8b20db2c9407708479f5cca2045629c", func := "tmplpipe/tmplpipelaw11.LexFormatRoundTrip", spec := "lexFormatRoundTrip", inPlace := ["internal/bytealg.IndexByteString", "internal/bytealg.IndexString", "internal/abi.NoEscape", "internal/bytealg.MakeNoZero", "internal/bytealg.CountString"], unfollowed := true, recurses := true, named := ["internal/bytealg.MaxLen", "unicode/utf8.first", "unicode/utf8.acceptRanges"], apart := false, laid := [("unicode/utf8.acceptRanges", laid_unicode_utf8_acceptRanges), ("unicode/utf8.first", laid_unicode_utf8_first)] }
def LexFormatRoundTripSaid : Prop := lexFormatRoundTripRow.holds Tryd.pinned (OpenSpec.ofChange lexFormatRoundTripSpec)

/-- ITS FALSE NEIGHBOUR: 'it returns false'. Refute it at one input. -/
def lexFormatRoundTripWrong : ChangeSpec := { name := "lexFormatRoundTrip", fn := fun _ => fun
  | [d] => { results := [.lit (.bool false)], args := [d] }
  | _ => none }
def LexFormatRoundTripWrongFalsely : Prop := lexFormatRoundTripRow.holds Tryd.pinned (OpenSpec.ofChange lexFormatRoundTripWrong)

/-- 'tmplpipelaw11.LexTextIsLiteral': WHATEVER THE INPUT: true; the input reads as it did. -/
def lexTextIsLiteralSpec : ChangeSpec := { name := "lexTextIsLiteral", fn := fun _ => fun
  | [d] => { results := [.lit (.bool true)], args := [d] }
  | _ => none }
def lexTextIsLiteralRow : OpenClaim := { program := "ytkiefgifbkpcfaadoor", sum := "4969da6ce78efb6ed175605a8f1e6981f8b20db2c9407708479f5cca2045629c", func := "tmplpipe/tmplpipelaw11.LexTextIsLiteral", spec := "lexTextIsLiteral", inPlace := ["internal/bytealg.IndexByteString", "internal/bytealg.IndexString", "internal/abi.NoEscape", "internal/bytealg.MakeNoZero", "internal/bytealg.CountString"], unfollowed := true, recurses := true, named := ["internal/bytealg.MaxLen", "unicode/utf8.first", "unicode/utf8.acceptRanges"], apart := false, laid := [("unicode/utf8.acceptRanges", laid_unicode_utf8_acceptRanges), ("unicode/utf8.first", laid_unicode_utf8_first)] }
def LexTextIsLiteralSaid : Prop := lexTextIsLiteralRow.holds Tryd.pinned (OpenSpec.ofChange lexTextIsLiteralSpec)

/-- ITS FALSE NEIGHBOUR: 'it returns false'. Refute it at one input. -/
def lexTextIsLiteralWrong : ChangeSpec := { name := "lexTextIsLiteral", fn := fun _ => fun
  | [d] => { results := [.lit (.bool false)], args := [d] }
  | _ => none }
def LexTextIsLiteralWrongFalsely : Prop := lexTextIsLiteralRow.holds Tryd.pinned (OpenSpec.ofChange lexTextIsLiteralWrong)

/-- 'tmplpipelaw11.LexOffsets': WHATEVER THE INPUT: true; the input reads as it did. -/
def lexOffsetsSpec : ChangeSpec := { name := "lexOffsets", fn := fun _ => fun
  | [d] => { results := [.lit (.bool true)], args := [d] }
  | _ => none }
def lexOffsetsRow : OpenClaim := { program := "ytkiefgifbkpcfaadoor", sum := "4969da6ce78efb6ed175605a8f1e6981f8b20db2c9407708479f5cca2045629c", func := "tmplpipe/tmplpipelaw11.LexOffsets", spec := "lexOffsets", inPlace := ["internal/bytealg.IndexByteString", "internal/bytealg.IndexString", "internal/abi.NoEscape", "internal/bytealg.MakeNoZero", "internal/bytealg.CountString"], unfollowed := true, recurses := true, named := ["internal/bytealg.MaxLen", "unicode/utf8.first", "unicode/utf8.acceptRanges"], apart := false, laid := [("unicode/utf8.acceptRanges", laid_unicode_utf8_acceptRanges), ("unicode/utf8.first", laid_unicode_utf8_first)] }
def LexOffsetsSaid : Prop := lexOffsetsRow.holds Tryd.pinned (OpenSpec.ofChange lexOffsetsSpec)

/-- ITS FALSE NEIGHBOUR: 'it returns false'. Refute it at one input. -/
def lexOffsetsWrong : ChangeSpec := { name := "lexOffsets", fn := fun _ => fun
  | [d] => { results := [.lit (.bool false)], args := [d] }
  | _ => none }
def LexOffsetsWrongFalsely : Prop := lexOffsetsRow.holds Tryd.pinned (OpenSpec.ofChange lexOffsetsWrong)

/-- 'tmplpipelaw11.LexConcatenation': WHATEVER THE INPUT: true; the input reads as it did. -/
def lexConcatenationSpec : ChangeSpec := { name := "lexConcatenation", fn := fun _ => fun
  | [d1, d2] => { results := [.lit (.bool true)], args := [d1, d2] }
  | _ => none }
def lexConcatenationRow : OpenClaim := { program := "ytkiefgifbkpcfaadoor", sum := "4969da6ce78efb6ed175605a8f1e6981f8b20db2c9407708479f5cca2045629c", func := "tmplpipe/tmplpipelaw11.LexConcatenation", spec := "lexConcatenation", inPlace := ["internal/bytealg.IndexByteString", "internal/bytealg.IndexString", "internal/abi.NoEscape", "internal/bytealg.MakeNoZero", "internal/bytealg.CountString"], unfollowed := true, recurses := true, named := ["internal/bytealg.MaxLen", "unicode/utf8.first", "unicode/utf8.acceptRanges"], apart := false, laid := [("unicode/utf8.acceptRanges", laid_unicode_utf8_acceptRanges), ("unicode/utf8.first", laid_unicode_utf8_first)] }
def LexConcatenationSaid : Prop := lexConcatenationRow.holds Tryd.pinned (OpenSpec.ofChange lexConcatenationSpec)

/-- ITS FALSE NEIGHBOUR: 'it returns false'. Refute it at one input. -/
def lexConcatenationWrong : ChangeSpec := { name := "lexConcatenation", fn := fun _ => fun
  | [d1, d2] => { results := [.lit (.bool false)], args := [d1, d2] }
  | _ => none }
def LexConcatenationWrongFalsely : Prop := lexConcatenationRow.holds Tryd.pinned (OpenSpec.ofChange lexConcatenationWrong)

/- THE SECOND FORM. 'bulk': how many values and letters a reading holds, each counted each time it is reached (what is shared counts as often as it is met; a slice's spare places count too). A statement '..UptoSaid' is the law's where the arguments, and the package variables that the reading takes, are together of bulk at most 1048576: NARROWER than '..Said'. Prove '..Said' where nothing that the law and all that it calls make is longer than what came in: it says more and counts as full. Else prove '..UptoSaid'. A law counts once. -/
mutual
def uptoBulk {H : Type} : DataW H → Nat
  | .lit (.string bytes) => bytes.length + 1
  | .lit _ => 1
  | .nil => 1
  | .ptr d => uptoBulk d + 1
  | .slice elems spare => uptoBulkAll elems + uptoBulkAll spare + 1
  | .agg parts => uptoBulkAll parts + 1
  | .iface _ d => uptoBulk d + 1
  | .map entries => uptoBulkEntries entries + 1
  | .held _ => 1
def uptoBulkAll {H : Type} : List (DataW H) → Nat
  | [] => 0
  | d :: r => uptoBulk d + uptoBulkAll r
def uptoBulkEntries {H : Type} : List (Lit × DataW H) → Nat
  | [] => 0
  | x :: r => uptoBulkEntry x + uptoBulkEntries r
def uptoBulkEntry {H : Type} : Lit × DataW H → Nat
  | (.string bytes, d) => bytes.length + uptoBulk d + 1
  | (_, d) => uptoBulk d + 1
 end
def uptoSmall : (H : Type) → List (DataW H) → Bool := fun _ ds => decide (uptoBulkAll ds ≤ 1048576)
def OpenSpec.upto (s : _root_.Go.ChangeSpec) : _root_.Go.OpenSpec := { _root_.Go.OpenSpec.ofChange s with cond := some uptoSmall }

/-- 'tmplpipelaw11.LexMatchesReference', WHERE WHAT IT READS IS OF BULK AT MOST 1048576: true; the input reads as it did. -/
def lexMatchesReferenceUptoRow : OpenClaim := { program := "ytkiefgifbkpcfaadoor", sum := "4969da6ce78efb6ed175605a8f1e6981f8b20db2c9407708479f5cca2045629c", func := "tmplpipe/tmplpipelaw11.LexMatchesReference", spec := "lexMatchesReference", inPlace := ["internal/bytealg.IndexByteString", "internal/bytealg.IndexString", "internal/abi.NoEscape", "internal/bytealg.MakeNoZero", "internal/bytealg.CountString"], unfollowed := true, recurses := true, named := ["internal/bytealg.MaxLen", "unicode/utf8.first", "unicode/utf8.acceptRanges"], apart := false, laid := [("unicode/utf8.acceptRanges", laid_unicode_utf8_acceptRanges), ("unicode/utf8.first", laid_unicode_utf8_first)], narrowed := true }
def LexMatchesReferenceUptoSaid : Prop := lexMatchesReferenceUptoRow.holds Tryd.pinned (OpenSpec.upto lexMatchesReferenceSpec)

/-- 'tmplpipelaw11.LexFormatRoundTrip', WHERE WHAT IT READS IS OF BULK AT MOST 1048576: true; the input reads as it did. -/
def lexFormatRoundTripUptoRow : OpenClaim := { program := "ytkiefgifbkpcfaadoor", sum := "4969da6ce78efb6ed175605a8f1e6981f8b20db2c9407708479f5cca2045629c", func := "tmplpipe/tmplpipelaw11.LexFormatRoundTrip", spec := "lexFormatRoundTrip", inPlace := ["internal/bytealg.IndexByteString", "internal/bytealg.IndexString", "internal/abi.NoEscape", "internal/bytealg.MakeNoZero", "internal/bytealg.CountString"], unfollowed := true, recurses := true, named := ["internal/bytealg.MaxLen", "unicode/utf8.first", "unicode/utf8.acceptRanges"], apart := false, laid := [("unicode/utf8.acceptRanges", laid_unicode_utf8_acceptRanges), ("unicode/utf8.first", laid_unicode_utf8_first)], narrowed := true }
def LexFormatRoundTripUptoSaid : Prop := lexFormatRoundTripUptoRow.holds Tryd.pinned (OpenSpec.upto lexFormatRoundTripSpec)

/-- 'tmplpipelaw11.LexTextIsLiteral', WHERE WHAT IT READS IS OF BULK AT MOST 1048576: true; the input reads as it did. -/
def lexTextIsLiteralUptoRow : OpenClaim := { program := "ytkiefgifbkpcfaadoor", sum := "4969da6ce78efb6ed175605a8f1e6981f8b20db2c9407708479f5cca2045629c", func := "tmplpipe/tmplpipelaw11.LexTextIsLiteral", spec := "lexTextIsLiteral", inPlace := ["internal/bytealg.IndexByteString", "internal/bytealg.IndexString", "internal/abi.NoEscape", "internal/bytealg.MakeNoZero", "internal/bytealg.CountString"], unfollowed := true, recurses := true, named := ["internal/bytealg.MaxLen", "unicode/utf8.first", "unicode/utf8.acceptRanges"], apart := false, laid := [("unicode/utf8.acceptRanges", laid_unicode_utf8_acceptRanges), ("unicode/utf8.first", laid_unicode_utf8_first)], narrowed := true }
def LexTextIsLiteralUptoSaid : Prop := lexTextIsLiteralUptoRow.holds Tryd.pinned (OpenSpec.upto lexTextIsLiteralSpec)

/-- 'tmplpipelaw11.LexOffsets', WHERE WHAT IT READS IS OF BULK AT MOST 1048576: true; the input reads as it did. -/
def lexOffsetsUptoRow : OpenClaim := { program := "ytkiefgifbkpcfaadoor", sum := "4969da6ce78efb6ed175605a8f1e6981f8b20db2c9407708479f5cca2045629c", func := "tmplpipe/tmplpipelaw11.LexOffsets", spec := "lexOffsets", inPlace := ["internal/bytealg.IndexByteString", "internal/bytealg.IndexString", "internal/abi.NoEscape", "internal/bytealg.MakeNoZero", "internal/bytealg.CountString"], unfollowed := true, recurses := true, named := ["internal/bytealg.MaxLen", "unicode/utf8.first", "unicode/utf8.acceptRanges"], apart := false, laid := [("unicode/utf8.acceptRanges", laid_unicode_utf8_acceptRanges), ("unicode/utf8.first", laid_unicode_utf8_first)], narrowed := true }
def LexOffsetsUptoSaid : Prop := lexOffsetsUptoRow.holds Tryd.pinned (OpenSpec.upto lexOffsetsSpec)

/-- 'tmplpipelaw11.LexConcatenation', WHERE WHAT IT READS IS OF BULK AT MOST 1048576: true; the input reads as it did. -/
def lexConcatenationUptoRow : OpenClaim := { program := "ytkiefgifbkpcfaadoor", sum := "4969da6ce78efb6ed175605a8f1e6981f8b20db2c9407708479f5cca2045629c", func := "tmplpipe/tmplpipelaw11.LexConcatenation", spec := "lexConcatenation", inPlace := ["internal/bytealg.IndexByteString", "internal/bytealg.IndexString", "internal/abi.NoEscape", "internal/bytealg.MakeNoZero", "internal/bytealg.CountString"], unfollowed := true, recurses := true, named := ["internal/bytealg.MaxLen", "unicode/utf8.first", "unicode/utf8.acceptRanges"], apart := false, laid := [("unicode/utf8.acceptRanges", laid_unicode_utf8_acceptRanges), ("unicode/utf8.first", laid_unicode_utf8_first)], narrowed := true }
def LexConcatenationUptoSaid : Prop := lexConcatenationUptoRow.holds Tryd.pinned (OpenSpec.upto lexConcatenationSpec)

end Rows
end Go.Proofs.YtkiefgifbkpcfaaDoor
