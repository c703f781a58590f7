/-
  NARROWER THAN 'FOR EVERY INPUT', by the rows' own cells (each row's printed sentence says how): ClassTells: laid · ClassWhole: laid.
  DERIVED. THE GIVEN ROWS OF THIS SEAT. 2 by the template 'for every input the law returns true; each argument reads behind the call as it read before'; 0 by the template 'total and deterministic' (their statements: YtgoibhbmndpgpaaGreatDoorTotals.lean).
  GIVEN WITH THE SEED: the statements are not yours to turn. If you find one false, say at which input.
  Laid BY PROGRAM, IN A SANDBOX (cutbox-rows.mjs): the forced cells as the released guide's own fill.sh prints them over the translation 58046fb794e9f827… (all of the seat's roots in one cut). By AI agents, Wed Nov 11 2026. No macro, syntax, notation, axiom, sorry.
-/
import Derived.Test.YtgoibhbmndpgpaaGreatDoorChecked
import GoSem.Claim
import GoSem.ClaimJoined
import GoSem.ClaimMapViews
import Derived.JoinedTies
import Derived.KernelRfl
namespace Go.Proofs.YtgoibhbmndpgpaaGreatDoor
/- THE CELL 'sum', in the pinned program and in every row, IS THE sha256 OF THE DUMP (.gsa) THAT YtgoibhbmndpgpaaGreatDoorProg.lean LOADS. Nothing in Lean hashes anything: it is a label: what it is worth is what the hold of that sum in a sandbox is worth. -/
noncomputable def Tryz.pinned : Pinned := { name := "ytgoibhbmndpgpaagreatdoor", sum := "58046fb794e9f827f5017a683a1c244fd9bb5a4c40cfb89bbbd0545eb127a6a1", checked := Tryz.checked }
namespace Rows
def none {H : Type} : Left H := { results := [], args := [] }

/- WHAT THE LISTED PACKAGE-LEVEL VARIABLES READ AS WHEN THE CALL BEGINS. Each datum BY PROGRAM (the guide's laid-datum.mjs) off the statement by which the dump's own 'gosem.cut.vars' lays the variable. In a bare row this is a premise. The card (YtgoibhbmndpgpaaGreatDoorCards.lean) ties it to the program's text. -/
def laid_polyglot_charset_spans {H : Type} : DataW H := .agg [.agg [.lit (.int .u8 32), .lit (.int .u8 34), .lit (.int .u8 128)], .agg [.lit (.int .u8 35), .lit (.int .u8 35), .lit (.int .u8 64)], .agg [.lit (.int .u8 36), .lit (.int .u8 44), .lit (.int .u8 128)], .agg [.lit (.int .u8 45), .lit (.int .u8 45), .lit (.int .u8 8)], .agg [.lit (.int .u8 46), .lit (.int .u8 46), .lit (.int .u8 32)], .agg [.lit (.int .u8 47), .lit (.int .u8 47), .lit (.int .u8 128)], .agg [.lit (.int .u8 48), .lit (.int .u8 57), .lit (.int .u8 2)], .agg [.lit (.int .u8 58), .lit (.int .u8 58), .lit (.int .u8 16)], .agg [.lit (.int .u8 59), .lit (.int .u8 64), .lit (.int .u8 128)], .agg [.lit (.int .u8 65), .lit (.int .u8 90), .lit (.int .u8 1)], .agg [.lit (.int .u8 91), .lit (.int .u8 91), .lit (.int .u8 128)], .agg [.lit (.int .u8 93), .lit (.int .u8 94), .lit (.int .u8 128)], .agg [.lit (.int .u8 95), .lit (.int .u8 95), .lit (.int .u8 4)], .agg [.lit (.int .u8 96), .lit (.int .u8 96), .lit (.int .u8 128)], .agg [.lit (.int .u8 97), .lit (.int .u8 122), .lit (.int .u8 1)], .agg [.lit (.int .u8 123), .lit (.int .u8 126), .lit (.int .u8 128)]]
def laid_polyglot_charset_sets {H : Type} : DataW H := .agg [.agg [.lit (.int .u8 0), .lit (.int .u8 0)], .agg [.lit (.int .u8 23), .lit (.int .u8 7)], .agg [.lit (.int .u8 255), .lit (.int .u8 255)], .agg [.lit (.int .u8 63), .lit (.int .u8 31)], .agg [.lit (.int .u8 47), .lit (.int .u8 47)]]
def laid_polyglot_utf_shapes {H : Type} : DataW H := .agg [.agg [.lit (.int .i64 1), .agg [.agg [.lit (.int .u8 0), .lit (.int .u8 127)], .agg [.lit (.int .u8 0), .lit (.int .u8 0)], .agg [.lit (.int .u8 0), .lit (.int .u8 0)], .agg [.lit (.int .u8 0), .lit (.int .u8 0)]]], .agg [.lit (.int .i64 2), .agg [.agg [.lit (.int .u8 194), .lit (.int .u8 223)], .agg [.lit (.int .u8 128), .lit (.int .u8 191)], .agg [.lit (.int .u8 0), .lit (.int .u8 0)], .agg [.lit (.int .u8 0), .lit (.int .u8 0)]]], .agg [.lit (.int .i64 3), .agg [.agg [.lit (.int .u8 224), .lit (.int .u8 224)], .agg [.lit (.int .u8 160), .lit (.int .u8 191)], .agg [.lit (.int .u8 128), .lit (.int .u8 191)], .agg [.lit (.int .u8 0), .lit (.int .u8 0)]]], .agg [.lit (.int .i64 3), .agg [.agg [.lit (.int .u8 225), .lit (.int .u8 236)], .agg [.lit (.int .u8 128), .lit (.int .u8 191)], .agg [.lit (.int .u8 128), .lit (.int .u8 191)], .agg [.lit (.int .u8 0), .lit (.int .u8 0)]]], .agg [.lit (.int .i64 3), .agg [.agg [.lit (.int .u8 237), .lit (.int .u8 237)], .agg [.lit (.int .u8 128), .lit (.int .u8 159)], .agg [.lit (.int .u8 128), .lit (.int .u8 191)], .agg [.lit (.int .u8 0), .lit (.int .u8 0)]]], .agg [.lit (.int .i64 3), .agg [.agg [.lit (.int .u8 238), .lit (.int .u8 239)], .agg [.lit (.int .u8 128), .lit (.int .u8 191)], .agg [.lit (.int .u8 128), .lit (.int .u8 191)], .agg [.lit (.int .u8 0), .lit (.int .u8 0)]]], .agg [.lit (.int .i64 4), .agg [.agg [.lit (.int .u8 240), .lit (.int .u8 240)], .agg [.lit (.int .u8 144), .lit (.int .u8 191)], .agg [.lit (.int .u8 128), .lit (.int .u8 191)], .agg [.lit (.int .u8 128), .lit (.int .u8 191)]]], .agg [.lit (.int .i64 4), .agg [.agg [.lit (.int .u8 241), .lit (.int .u8 243)], .agg [.lit (.int .u8 128), .lit (.int .u8 191)], .agg [.lit (.int .u8 128), .lit (.int .u8 191)], .agg [.lit (.int .u8 128), .lit (.int .u8 191)]]], .agg [.lit (.int .i64 4), .agg [.agg [.lit (.int .u8 244), .lit (.int .u8 244)], .agg [.lit (.int .u8 128), .lit (.int .u8 143)], .agg [.lit (.int .u8 128), .lit (.int .u8 191)], .agg [.lit (.int .u8 128), .lit (.int .u8 191)]]]]
def laid_polyglot_stamp_places {H : Type} : DataW H := .agg [.lit (.int .i64 0), .lit (.int .i64 3), .lit (.int .i64 6), .lit (.int .i64 9)]

/-- 'polyglotlaw16.ClassTells': WHATEVER THE INPUT: true; the input reads as it did. -/
def classTellsSpec : ChangeSpec := { name := "classTells", fn := fun _ => fun
  | [d1, d2, d3] => { results := [.lit (.bool true)], args := [d1, d2, d3] }
  | _ => none }
def classTellsRow : OpenClaim := { program := "ytgoibhbmndpgpaagreatdoor", sum := "58046fb794e9f827f5017a683a1c244fd9bb5a4c40cfb89bbbd0545eb127a6a1", func := "polyglot/polyglotlaw16.ClassTells", spec := "classTells", inPlace := ["internal/bytealg.abigen_runtime_cmpstring"], unfollowed := true, recurses := true, named := ["polyglot/utf.shapes", "polyglot/stamp.places", "polyglot/charset.spans", "polyglot/charset.sets"], apart := false, laid := [("polyglot/charset.spans", laid_polyglot_charset_spans), ("polyglot/charset.sets", laid_polyglot_charset_sets), ("polyglot/utf.shapes", laid_polyglot_utf_shapes), ("polyglot/stamp.places", laid_polyglot_stamp_places)] }
def ClassTellsSaid : Prop := classTellsRow.holds Tryz.pinned (OpenSpec.ofChange classTellsSpec)

/-- ITS FALSE NEIGHBOUR: 'it returns false'. Refute it at one input. -/
def classTellsWrong : ChangeSpec := { name := "classTells", fn := fun _ => fun
  | [d1, d2, d3] => { results := [.lit (.bool false)], args := [d1, d2, d3] }
  | _ => none }
def ClassTellsWrongFalsely : Prop := classTellsRow.holds Tryz.pinned (OpenSpec.ofChange classTellsWrong)

/-- 'polyglotlaw16.ClassWhole': WHATEVER THE INPUT: true; the input reads as it did. -/
def classWholeSpec : ChangeSpec := { name := "classWhole", fn := fun _ => fun
  | [d1, d2] => { results := [.lit (.bool true)], args := [d1, d2] }
  | _ => none }
def classWholeRow : OpenClaim := { program := "ytgoibhbmndpgpaagreatdoor", sum := "58046fb794e9f827f5017a683a1c244fd9bb5a4c40cfb89bbbd0545eb127a6a1", func := "polyglot/polyglotlaw16.ClassWhole", spec := "classWhole", inPlace := ["internal/bytealg.abigen_runtime_cmpstring"], unfollowed := true, recurses := true, named := ["polyglot/utf.shapes", "polyglot/stamp.places", "polyglot/charset.spans", "polyglot/charset.sets"], apart := false, laid := [("polyglot/charset.spans", laid_polyglot_charset_spans), ("polyglot/charset.sets", laid_polyglot_charset_sets), ("polyglot/utf.shapes", laid_polyglot_utf_shapes), ("polyglot/stamp.places", laid_polyglot_stamp_places)] }
def ClassWholeSaid : Prop := classWholeRow.holds Tryz.pinned (OpenSpec.ofChange classWholeSpec)

/-- ITS FALSE NEIGHBOUR: 'it returns false'. Refute it at one input. -/
def classWholeWrong : ChangeSpec := { name := "classWhole", fn := fun _ => fun
  | [d1, d2] => { results := [.lit (.bool false)], args := [d1, d2] }
  | _ => none }
def ClassWholeWrongFalsely : Prop := classWholeRow.holds Tryz.pinned (OpenSpec.ofChange classWholeWrong)

/- THE SECOND FORM. 'bulk': how many values and letters a reading holds, each counted each time it is reached (what is shared counts as often as it is met; a slice's spare places count too). A statement '..UptoSaid' is the law's where the arguments, and the package variables that the reading takes, are together of bulk at most 1048576: NARROWER than '..Said'. Prove '..Said' where nothing that the law and all that it calls make is longer than what came in: it says more and counts as full. Else prove '..UptoSaid'. A law counts once. -/
mutual
def uptoBulk {H : Type} : DataW H → Nat
  | .lit (.string bytes) => bytes.length + 1
  | .lit _ => 1
  | .nil => 1
  | .ptr d => uptoBulk d + 1
  | .slice elems spare => uptoBulkAll elems + uptoBulkAll spare + 1
  | .agg parts => uptoBulkAll parts + 1
  | .iface _ d => uptoBulk d + 1
  | .map entries => uptoBulkEntries entries + 1
  | .held _ => 1
def uptoBulkAll {H : Type} : List (DataW H) → Nat
  | [] => 0
  | d :: r => uptoBulk d + uptoBulkAll r
def uptoBulkEntries {H : Type} : List (Lit × DataW H) → Nat
  | [] => 0
  | x :: r => uptoBulkEntry x + uptoBulkEntries r
def uptoBulkEntry {H : Type} : Lit × DataW H → Nat
  | (.string bytes, d) => bytes.length + uptoBulk d + 1
  | (_, d) => uptoBulk d + 1
 end
def uptoSmall : (H : Type) → List (DataW H) → Bool := fun _ ds => decide (uptoBulkAll ds ≤ 1048576)
def OpenSpec.upto (s : _root_.Go.ChangeSpec) : _root_.Go.OpenSpec := { _root_.Go.OpenSpec.ofChange s with cond := some uptoSmall }

/-- 'polyglotlaw16.ClassTells', WHERE WHAT IT READS IS OF BULK AT MOST 1048576: true; the input reads as it did. -/
def classTellsUptoRow : OpenClaim := { program := "ytgoibhbmndpgpaagreatdoor", sum := "58046fb794e9f827f5017a683a1c244fd9bb5a4c40cfb89bbbd0545eb127a6a1", func := "polyglot/polyglotlaw16.ClassTells", spec := "classTells", inPlace := ["internal/bytealg.abigen_runtime_cmpstring"], unfollowed := true, recurses := true, named := ["polyglot/utf.shapes", "polyglot/stamp.places", "polyglot/charset.spans", "polyglot/charset.sets"], apart := false, laid := [("polyglot/charset.spans", laid_polyglot_charset_spans), ("polyglot/charset.sets", laid_polyglot_charset_sets), ("polyglot/utf.shapes", laid_polyglot_utf_shapes), ("polyglot/stamp.places", laid_polyglot_stamp_places)], narrowed := true }
def ClassTellsUptoSaid : Prop := classTellsUptoRow.holds Tryz.pinned (OpenSpec.upto classTellsSpec)

/-- 'polyglotlaw16.ClassWhole', WHERE WHAT IT READS IS OF BULK AT MOST 1048576: true; the input reads as it did. -/
def classWholeUptoRow : OpenClaim := { program := "ytgoibhbmndpgpaagreatdoor", sum := "58046fb794e9f827f5017a683a1c244fd9bb5a4c40cfb89bbbd0545eb127a6a1", func := "polyglot/polyglotlaw16.ClassWhole", spec := "classWhole", inPlace := ["internal/bytealg.abigen_runtime_cmpstring"], unfollowed := true, recurses := true, named := ["polyglot/utf.shapes", "polyglot/stamp.places", "polyglot/charset.spans", "polyglot/charset.sets"], apart := false, laid := [("polyglot/charset.spans", laid_polyglot_charset_spans), ("polyglot/charset.sets", laid_polyglot_charset_sets), ("polyglot/utf.shapes", laid_polyglot_utf_shapes), ("polyglot/stamp.places", laid_polyglot_stamp_places)], narrowed := true }
def ClassWholeUptoSaid : Prop := classWholeUptoRow.holds Tryz.pinned (OpenSpec.upto classWholeSpec)

end Rows
end Go.Proofs.YtgoibhbmndpgpaaGreatDoor
