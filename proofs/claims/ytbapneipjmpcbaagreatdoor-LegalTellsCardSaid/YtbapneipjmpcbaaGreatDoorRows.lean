/-
  NARROWER THAN 'FOR EVERY INPUT', by the rows' own cells (each row's printed sentence says how): LegalTells: laid · LegalBack: laid · LegalLossy: laid · LegalStays: laid.
  DERIVED. THE GIVEN ROWS OF THIS SEAT. 4 by the template 'for every input the law returns true; each argument reads behind the call as it read before'; 0 by the template 'total and deterministic' (their statements: YtbapneipjmpcbaaGreatDoorTotals.lean).
  GIVEN WITH THE SEED: the statements are not yours to turn. If you find one false, say at which input.
  Laid BY PROGRAM, IN A SANDBOX (cutbox-rows.mjs): the forced cells as the released guide's own fill.sh prints them over the translation de9b379553c1fcba… (all of the seat's roots in one cut). By AI agents, Wed Nov 11 2026. No macro, syntax, notation, axiom, sorry.
-/
import Derived.Test.YtbapneipjmpcbaaGreatDoorChecked
import GoSem.Claim
import GoSem.ClaimJoined
import GoSem.ClaimMapViews
import Derived.JoinedTies
import Derived.KernelRfl
namespace Go.Proofs.YtbapneipjmpcbaaGreatDoor
/- THE CELL 'sum', in the pinned program and in every row, IS THE sha256 OF THE DUMP (.gsa) THAT YtbapneipjmpcbaaGreatDoorProg.lean LOADS. Nothing in Lean hashes anything: it is a label: what it is worth is what the hold of that sum in a sandbox is worth. -/
noncomputable def Tryz.pinned : Pinned := { name := "ytbapneipjmpcbaagreatdoor", sum := "de9b379553c1fcba33933001bfb867026bbe4ce32bfd62565fc9b7cc3483430f", checked := Tryz.checked }
namespace Rows
def none {H : Type} : Left H := { results := [], args := [] }

/- WHAT THE LISTED PACKAGE-LEVEL VARIABLES READ AS WHEN THE CALL BEGINS. Each datum BY PROGRAM (the guide's laid-datum.mjs) off the statement by which the dump's own 'gosem.cut.vars' lays the variable. In a bare row this is a premise. The card (YtbapneipjmpcbaaGreatDoorCards.lean) ties it to the program's text. -/
def laid_polyglot_charset_spans {H : Type} : DataW H := .agg [.agg [.lit (.int .u8 32), .lit (.int .u8 34), .lit (.int .u8 128)], .agg [.lit (.int .u8 35), .lit (.int .u8 35), .lit (.int .u8 64)], .agg [.lit (.int .u8 36), .lit (.int .u8 44), .lit (.int .u8 128)], .agg [.lit (.int .u8 45), .lit (.int .u8 45), .lit (.int .u8 8)], .agg [.lit (.int .u8 46), .lit (.int .u8 46), .lit (.int .u8 32)], .agg [.lit (.int .u8 47), .lit (.int .u8 47), .lit (.int .u8 128)], .agg [.lit (.int .u8 48), .lit (.int .u8 57), .lit (.int .u8 2)], .agg [.lit (.int .u8 58), .lit (.int .u8 58), .lit (.int .u8 16)], .agg [.lit (.int .u8 59), .lit (.int .u8 64), .lit (.int .u8 128)], .agg [.lit (.int .u8 65), .lit (.int .u8 90), .lit (.int .u8 1)], .agg [.lit (.int .u8 91), .lit (.int .u8 91), .lit (.int .u8 128)], .agg [.lit (.int .u8 93), .lit (.int .u8 94), .lit (.int .u8 128)], .agg [.lit (.int .u8 95), .lit (.int .u8 95), .lit (.int .u8 4)], .agg [.lit (.int .u8 96), .lit (.int .u8 96), .lit (.int .u8 128)], .agg [.lit (.int .u8 97), .lit (.int .u8 122), .lit (.int .u8 1)], .agg [.lit (.int .u8 123), .lit (.int .u8 126), .lit (.int .u8 128)]]
def laid_polyglot_charset_sets {H : Type} : DataW H := .agg [.agg [.lit (.int .u8 0), .lit (.int .u8 0)], .agg [.lit (.int .u8 23), .lit (.int .u8 7)], .agg [.lit (.int .u8 255), .lit (.int .u8 255)], .agg [.lit (.int .u8 63), .lit (.int .u8 31)], .agg [.lit (.int .u8 47), .lit (.int .u8 47)]]
def laid_polyglot_utf_shapes {H : Type} : DataW H := .agg [.agg [.lit (.int .i64 1), .agg [.agg [.lit (.int .u8 0), .lit (.int .u8 127)], .agg [.lit (.int .u8 0), .lit (.int .u8 0)], .agg [.lit (.int .u8 0), .lit (.int .u8 0)], .agg [.lit (.int .u8 0), .lit (.int .u8 0)]]], .agg [.lit (.int .i64 2), .agg [.agg [.lit (.int .u8 194), .lit (.int .u8 223)], .agg [.lit (.int .u8 128), .lit (.int .u8 191)], .agg [.lit (.int .u8 0), .lit (.int .u8 0)], .agg [.lit (.int .u8 0), .lit (.int .u8 0)]]], .agg [.lit (.int .i64 3), .agg [.agg [.lit (.int .u8 224), .lit (.int .u8 224)], .agg [.lit (.int .u8 160), .lit (.int .u8 191)], .agg [.lit (.int .u8 128), .lit (.int .u8 191)], .agg [.lit (.int .u8 0), .lit (.int .u8 0)]]], .agg [.lit (.int .i64 3), .agg [.agg [.lit (.int .u8 225), .lit (.int .u8 236)], .agg [.lit (.int .u8 128), .lit (.int .u8 191)], .agg [.lit (.int .u8 128), .lit (.int .u8 191)], .agg [.lit (.int .u8 0), .lit (.int .u8 0)]]], .agg [.lit (.int .i64 3), .agg [.agg [.lit (.int .u8 237), .lit (.int .u8 237)], .agg [.lit (.int .u8 128), .lit (.int .u8 159)], .agg [.lit (.int .u8 128), .lit (.int .u8 191)], .agg [.lit (.int .u8 0), .lit (.int .u8 0)]]], .agg [.lit (.int .i64 3), .agg [.agg [.lit (.int .u8 238), .lit (.int .u8 239)], .agg [.lit (.int .u8 128), .lit (.int .u8 191)], .agg [.lit (.int .u8 128), .lit (.int .u8 191)], .agg [.lit (.int .u8 0), .lit (.int .u8 0)]]], .agg [.lit (.int .i64 4), .agg [.agg [.lit (.int .u8 240), .lit (.int .u8 240)], .agg [.lit (.int .u8 144), .lit (.int .u8 191)], .agg [.lit (.int .u8 128), .lit (.int .u8 191)], .agg [.lit (.int .u8 128), .lit (.int .u8 191)]]], .agg [.lit (.int .i64 4), .agg [.agg [.lit (.int .u8 241), .lit (.int .u8 243)], .agg [.lit (.int .u8 128), .lit (.int .u8 191)], .agg [.lit (.int .u8 128), .lit (.int .u8 191)], .agg [.lit (.int .u8 128), .lit (.int .u8 191)]]], .agg [.lit (.int .i64 4), .agg [.agg [.lit (.int .u8 244), .lit (.int .u8 244)], .agg [.lit (.int .u8 128), .lit (.int .u8 143)], .agg [.lit (.int .u8 128), .lit (.int .u8 191)], .agg [.lit (.int .u8 128), .lit (.int .u8 191)]]]]
def laid_polyglot_stamp_places {H : Type} : DataW H := .agg [.lit (.int .i64 0), .lit (.int .i64 3), .lit (.int .i64 6), .lit (.int .i64 9)]

/-- 'polyglotlaw15.LegalTells': WHATEVER THE INPUT: true; the input reads as it did. -/
def legalTellsSpec : ChangeSpec := { name := "legalTells", fn := fun _ => fun
  | [d1, d2, d3] => { results := [.lit (.bool true)], args := [d1, d2, d3] }
  | _ => none }
def legalTellsRow : OpenClaim := { program := "ytbapneipjmpcbaagreatdoor", sum := "de9b379553c1fcba33933001bfb867026bbe4ce32bfd62565fc9b7cc3483430f", func := "polyglot/polyglotlaw15.LegalTells", spec := "legalTells", inPlace := ["internal/bytealg.abigen_runtime_cmpstring", "internal/abi.NoEscape", "internal/bytealg.IndexByteString", "internal/bytealg.IndexString"], unfollowed := true, recurses := true, named := ["polyglot/utf.shapes", "polyglot/stamp.places", "polyglot/charset.spans", "polyglot/charset.sets", "internal/bytealg.MaxLen"], apart := false, laid := [("polyglot/charset.spans", laid_polyglot_charset_spans), ("polyglot/charset.sets", laid_polyglot_charset_sets), ("polyglot/utf.shapes", laid_polyglot_utf_shapes), ("polyglot/stamp.places", laid_polyglot_stamp_places)] }
def LegalTellsSaid : Prop := legalTellsRow.holds Tryz.pinned (OpenSpec.ofChange legalTellsSpec)

/-- ITS FALSE NEIGHBOUR: 'it returns false'. Refute it at one input. -/
def legalTellsWrong : ChangeSpec := { name := "legalTells", fn := fun _ => fun
  | [d1, d2, d3] => { results := [.lit (.bool false)], args := [d1, d2, d3] }
  | _ => none }
def LegalTellsWrongFalsely : Prop := legalTellsRow.holds Tryz.pinned (OpenSpec.ofChange legalTellsWrong)

/-- 'polyglotlaw15.LegalBack': WHATEVER THE INPUT: true; the input reads as it did. -/
def legalBackSpec : ChangeSpec := { name := "legalBack", fn := fun _ => fun
  | [d1, d2] => { results := [.lit (.bool true)], args := [d1, d2] }
  | _ => none }
def legalBackRow : OpenClaim := { program := "ytbapneipjmpcbaagreatdoor", sum := "de9b379553c1fcba33933001bfb867026bbe4ce32bfd62565fc9b7cc3483430f", func := "polyglot/polyglotlaw15.LegalBack", spec := "legalBack", inPlace := ["internal/bytealg.abigen_runtime_cmpstring", "internal/abi.NoEscape", "internal/bytealg.IndexByteString", "internal/bytealg.IndexString"], unfollowed := true, recurses := true, named := ["polyglot/utf.shapes", "polyglot/stamp.places", "polyglot/charset.spans", "polyglot/charset.sets", "internal/bytealg.MaxLen"], apart := false, laid := [("polyglot/charset.spans", laid_polyglot_charset_spans), ("polyglot/charset.sets", laid_polyglot_charset_sets), ("polyglot/utf.shapes", laid_polyglot_utf_shapes), ("polyglot/stamp.places", laid_polyglot_stamp_places)] }
def LegalBackSaid : Prop := legalBackRow.holds Tryz.pinned (OpenSpec.ofChange legalBackSpec)

/-- ITS FALSE NEIGHBOUR: 'it returns false'. Refute it at one input. -/
def legalBackWrong : ChangeSpec := { name := "legalBack", fn := fun _ => fun
  | [d1, d2] => { results := [.lit (.bool false)], args := [d1, d2] }
  | _ => none }
def LegalBackWrongFalsely : Prop := legalBackRow.holds Tryz.pinned (OpenSpec.ofChange legalBackWrong)

/-- 'polyglotlaw15.LegalLossy': WHATEVER THE INPUT: true; the input reads as it did. -/
def legalLossySpec : ChangeSpec := { name := "legalLossy", fn := fun _ => fun
  | [d1, d2] => { results := [.lit (.bool true)], args := [d1, d2] }
  | _ => none }
def legalLossyRow : OpenClaim := { program := "ytbapneipjmpcbaagreatdoor", sum := "de9b379553c1fcba33933001bfb867026bbe4ce32bfd62565fc9b7cc3483430f", func := "polyglot/polyglotlaw15.LegalLossy", spec := "legalLossy", inPlace := ["internal/bytealg.abigen_runtime_cmpstring", "internal/abi.NoEscape", "internal/bytealg.IndexByteString", "internal/bytealg.IndexString"], unfollowed := true, recurses := true, named := ["polyglot/utf.shapes", "polyglot/stamp.places", "polyglot/charset.spans", "polyglot/charset.sets", "internal/bytealg.MaxLen"], apart := false, laid := [("polyglot/charset.spans", laid_polyglot_charset_spans), ("polyglot/charset.sets", laid_polyglot_charset_sets), ("polyglot/utf.shapes", laid_polyglot_utf_shapes), ("polyglot/stamp.places", laid_polyglot_stamp_places)] }
def LegalLossySaid : Prop := legalLossyRow.holds Tryz.pinned (OpenSpec.ofChange legalLossySpec)

/-- ITS FALSE NEIGHBOUR: 'it returns false'. Refute it at one input. -/
def legalLossyWrong : ChangeSpec := { name := "legalLossy", fn := fun _ => fun
  | [d1, d2] => { results := [.lit (.bool false)], args := [d1, d2] }
  | _ => none }
def LegalLossyWrongFalsely : Prop := legalLossyRow.holds Tryz.pinned (OpenSpec.ofChange legalLossyWrong)

/-- 'polyglotlaw15.LegalStays': WHATEVER THE INPUT: true; the input reads as it did. -/
def legalStaysSpec : ChangeSpec := { name := "legalStays", fn := fun _ => fun
  | [d1, d2] => { results := [.lit (.bool true)], args := [d1, d2] }
  | _ => none }
def legalStaysRow : OpenClaim := { program := "ytbapneipjmpcbaagreatdoor", sum := "de9b379553c1fcba33933001bfb867026bbe4ce32bfd62565fc9b7cc3483430f", func := "polyglot/polyglotlaw15.LegalStays", spec := "legalStays", inPlace := ["internal/bytealg.abigen_runtime_cmpstring", "internal/abi.NoEscape", "internal/bytealg.IndexByteString", "internal/bytealg.IndexString"], unfollowed := true, recurses := true, named := ["polyglot/utf.shapes", "polyglot/stamp.places", "polyglot/charset.spans", "polyglot/charset.sets", "internal/bytealg.MaxLen"], apart := false, laid := [("polyglot/charset.spans", laid_polyglot_charset_spans), ("polyglot/charset.sets", laid_polyglot_charset_sets), ("polyglot/utf.shapes", laid_polyglot_utf_shapes), ("polyglot/stamp.places", laid_polyglot_stamp_places)] }
def LegalStaysSaid : Prop := legalStaysRow.holds Tryz.pinned (OpenSpec.ofChange legalStaysSpec)

/-- ITS FALSE NEIGHBOUR: 'it returns false'. Refute it at one input. -/
def legalStaysWrong : ChangeSpec := { name := "legalStays", fn := fun _ => fun
  | [d1, d2] => { results := [.lit (.bool false)], args := [d1, d2] }
  | _ => none }
def LegalStaysWrongFalsely : Prop := legalStaysRow.holds Tryz.pinned (OpenSpec.ofChange legalStaysWrong)

/- THE SECOND FORM. 'bulk': how many values and letters a reading holds, each counted each time it is reached (what is shared counts as often as it is met; a slice's spare places count too). A statement '..UptoSaid' is the law's where the arguments, and the package variables that the reading takes, are together of bulk at most 1048576: NARROWER than '..Said'. Prove '..Said' where nothing that the law and all that it calls make is longer than what came in: it says more and counts as full. Else prove '..UptoSaid'. A law counts once. -/
mutual
def uptoBulk {H : Type} : DataW H → Nat
  | .lit (.string bytes) => bytes.length + 1
  | .lit _ => 1
  | .nil => 1
  | .ptr d => uptoBulk d + 1
  | .slice elems spare => uptoBulkAll elems + uptoBulkAll spare + 1
  | .agg parts => uptoBulkAll parts + 1
  | .iface _ d => uptoBulk d + 1
  | .map entries => uptoBulkEntries entries + 1
  | .held _ => 1
def uptoBulkAll {H : Type} : List (DataW H) → Nat
  | [] => 0
  | d :: r => uptoBulk d + uptoBulkAll r
def uptoBulkEntries {H : Type} : List (Lit × DataW H) → Nat
  | [] => 0
  | x :: r => uptoBulkEntry x + uptoBulkEntries r
def uptoBulkEntry {H : Type} : Lit × DataW H → Nat
  | (.string bytes, d) => bytes.length + uptoBulk d + 1
  | (_, d) => uptoBulk d + 1
 end
def uptoSmall : (H : Type) → List (DataW H) → Bool := fun _ ds => decide (uptoBulkAll ds ≤ 1048576)
def OpenSpec.upto (s : _root_.Go.ChangeSpec) : _root_.Go.OpenSpec := { _root_.Go.OpenSpec.ofChange s with cond := some uptoSmall }

/-- 'polyglotlaw15.LegalTells', WHERE WHAT IT READS IS OF BULK AT MOST 1048576: true; the input reads as it did. -/
def legalTellsUptoRow : OpenClaim := { program := "ytbapneipjmpcbaagreatdoor", sum := "de9b379553c1fcba33933001bfb867026bbe4ce32bfd62565fc9b7cc3483430f", func := "polyglot/polyglotlaw15.LegalTells", spec := "legalTells", inPlace := ["internal/bytealg.abigen_runtime_cmpstring", "internal/abi.NoEscape", "internal/bytealg.IndexByteString", "internal/bytealg.IndexString"], unfollowed := true, recurses := true, named := ["polyglot/utf.shapes", "polyglot/stamp.places", "polyglot/charset.spans", "polyglot/charset.sets", "internal/bytealg.MaxLen"], apart := false, laid := [("polyglot/charset.spans", laid_polyglot_charset_spans), ("polyglot/charset.sets", laid_polyglot_charset_sets), ("polyglot/utf.shapes", laid_polyglot_utf_shapes), ("polyglot/stamp.places", laid_polyglot_stamp_places)], narrowed := true }
def LegalTellsUptoSaid : Prop := legalTellsUptoRow.holds Tryz.pinned (OpenSpec.upto legalTellsSpec)

/-- 'polyglotlaw15.LegalBack', WHERE WHAT IT READS IS OF BULK AT MOST 1048576: true; the input reads as it did. -/
def legalBackUptoRow : OpenClaim := { program := "ytbapneipjmpcbaagreatdoor", sum := "de9b379553c1fcba33933001bfb867026bbe4ce32bfd62565fc9b7cc3483430f", func := "polyglot/polyglotlaw15.LegalBack", spec := "legalBack", inPlace := ["internal/bytealg.abigen_runtime_cmpstring", "internal/abi.NoEscape", "internal/bytealg.IndexByteString", "internal/bytealg.IndexString"], unfollowed := true, recurses := true, named := ["polyglot/utf.shapes", "polyglot/stamp.places", "polyglot/charset.spans", "polyglot/charset.sets", "internal/bytealg.MaxLen"], apart := false, laid := [("polyglot/charset.spans", laid_polyglot_charset_spans), ("polyglot/charset.sets", laid_polyglot_charset_sets), ("polyglot/utf.shapes", laid_polyglot_utf_shapes), ("polyglot/stamp.places", laid_polyglot_stamp_places)], narrowed := true }
def LegalBackUptoSaid : Prop := legalBackUptoRow.holds Tryz.pinned (OpenSpec.upto legalBackSpec)

/-- 'polyglotlaw15.LegalLossy', WHERE WHAT IT READS IS OF BULK AT MOST 1048576: true; the input reads as it did. -/
def legalLossyUptoRow : OpenClaim := { program := "ytbapneipjmpcbaagreatdoor", sum := "de9b379553c1fcba33933001bfb867026bbe4ce32bfd62565fc9b7cc3483430f", func := "polyglot/polyglotlaw15.LegalLossy", spec := "legalLossy", inPlace := ["internal/bytealg.abigen_runtime_cmpstring", "internal/abi.NoEscape", "internal/bytealg.IndexByteString", "internal/bytealg.IndexString"], unfollowed := true, recurses := true, named := ["polyglot/utf.shapes", "polyglot/stamp.places", "polyglot/charset.spans", "polyglot/charset.sets", "internal/bytealg.MaxLen"], apart := false, laid := [("polyglot/charset.spans", laid_polyglot_charset_spans), ("polyglot/charset.sets", laid_polyglot_charset_sets), ("polyglot/utf.shapes", laid_polyglot_utf_shapes), ("polyglot/stamp.places", laid_polyglot_stamp_places)], narrowed := true }
def LegalLossyUptoSaid : Prop := legalLossyUptoRow.holds Tryz.pinned (OpenSpec.upto legalLossySpec)

/-- 'polyglotlaw15.LegalStays', WHERE WHAT IT READS IS OF BULK AT MOST 1048576: true; the input reads as it did. -/
def legalStaysUptoRow : OpenClaim := { program := "ytbapneipjmpcbaagreatdoor", sum := "de9b379553c1fcba33933001bfb867026bbe4ce32bfd62565fc9b7cc3483430f", func := "polyglot/polyglotlaw15.LegalStays", spec := "legalStays", inPlace := ["internal/bytealg.abigen_runtime_cmpstring", "internal/abi.NoEscape", "internal/bytealg.IndexByteString", "internal/bytealg.IndexString"], unfollowed := true, recurses := true, named := ["polyglot/utf.shapes", "polyglot/stamp.places", "polyglot/charset.spans", "polyglot/charset.sets", "internal/bytealg.MaxLen"], apart := false, laid := [("polyglot/charset.spans", laid_polyglot_charset_spans), ("polyglot/charset.sets", laid_polyglot_charset_sets), ("polyglot/utf.shapes", laid_polyglot_utf_shapes), ("polyglot/stamp.places", laid_polyglot_stamp_places)], narrowed := true }
def LegalStaysUptoSaid : Prop := legalStaysUptoRow.holds Tryz.pinned (OpenSpec.upto legalStaysSpec)

end Rows
end Go.Proofs.YtbapneipjmpcbaaGreatDoor
