/-
  NARROWER THAN 'FOR EVERY INPUT', by the rows' own cells (each row's printed sentence says how): MergeTells: laid · MergeSelf: laid · MergeParts: laid · MergeLater: laid · MergeKinds: laid.
  DERIVED. THE GIVEN ROWS OF THIS SEAT. 5 by the template 'for every input the law returns true; each argument reads behind the call as it read before'; 0 by the template 'total and deterministic' (their statements: YtjeefgamkoeiaaaGreatDoorTotals.lean).
  GIVEN WITH THE SEED: the statements are not yours to turn. If you find one false, say at which input.
  Laid BY PROGRAM, IN A SANDBOX (cutbox-rows.mjs): the forced cells as the released guide's own fill.sh prints them over the translation b05141e603a2a120… (all of the seat's roots in one cut). By AI agents, Wed Nov 11 2026. No macro, syntax, notation, axiom, sorry.
-/
import Derived.Test.YtjeefgamkoeiaaaGreatDoorChecked
import GoSem.Claim
import GoSem.ClaimJoined
import GoSem.ClaimMapViews
import Derived.JoinedTies
import Derived.KernelRfl
namespace Go.Proofs.YtjeefgamkoeiaaaGreatDoor
/- THE CELL 'sum', in the pinned program and in every row, IS THE sha256 OF THE DUMP (.gsa) THAT YtjeefgamkoeiaaaGreatDoorProg.lean LOADS. Nothing in Lean hashes anything: it is a label: what it is worth is what the hold of that sum in a sandbox is worth. -/
noncomputable def Tryz.pinned : Pinned := { name := "ytjeefgamkoeiaaagreatdoor", sum := "b05141e603a2a12038474cdb21dbe429e1391d4c3d89c67656fd30f6961ab242", checked := Tryz.checked }
namespace Rows
def none {H : Type} : Left H := { results := [], args := [] }

/- WHAT THE LISTED PACKAGE-LEVEL VARIABLES READ AS WHEN THE CALL BEGINS. Each datum BY PROGRAM (the guide's laid-datum.mjs) off the statement by which the dump's own 'gosem.cut.vars' lays the variable. In a bare row this is a premise. The card (YtjeefgamkoeiaaaGreatDoorCards.lean) ties it to the program's text. -/
def laid_polyglot_utf_shapes {H : Type} : DataW H := .agg [.agg [.lit (.int .i64 1), .agg [.agg [.lit (.int .u8 0), .lit (.int .u8 127)], .agg [.lit (.int .u8 0), .lit (.int .u8 0)], .agg [.lit (.int .u8 0), .lit (.int .u8 0)], .agg [.lit (.int .u8 0), .lit (.int .u8 0)]]], .agg [.lit (.int .i64 2), .agg [.agg [.lit (.int .u8 194), .lit (.int .u8 223)], .agg [.lit (.int .u8 128), .lit (.int .u8 191)], .agg [.lit (.int .u8 0), .lit (.int .u8 0)], .agg [.lit (.int .u8 0), .lit (.int .u8 0)]]], .agg [.lit (.int .i64 3), .agg [.agg [.lit (.int .u8 224), .lit (.int .u8 224)], .agg [.lit (.int .u8 160), .lit (.int .u8 191)], .agg [.lit (.int .u8 128), .lit (.int .u8 191)], .agg [.lit (.int .u8 0), .lit (.int .u8 0)]]], .agg [.lit (.int .i64 3), .agg [.agg [.lit (.int .u8 225), .lit (.int .u8 236)], .agg [.lit (.int .u8 128), .lit (.int .u8 191)], .agg [.lit (.int .u8 128), .lit (.int .u8 191)], .agg [.lit (.int .u8 0), .lit (.int .u8 0)]]], .agg [.lit (.int .i64 3), .agg [.agg [.lit (.int .u8 237), .lit (.int .u8 237)], .agg [.lit (.int .u8 128), .lit (.int .u8 159)], .agg [.lit (.int .u8 128), .lit (.int .u8 191)], .agg [.lit (.int .u8 0), .lit (.int .u8 0)]]], .agg [.lit (.int .i64 3), .agg [.agg [.lit (.int .u8 238), .lit (.int .u8 239)], .agg [.lit (.int .u8 128), .lit (.int .u8 191)], .agg [.lit (.int .u8 128), .lit (.int .u8 191)], .agg [.lit (.int .u8 0), .lit (.int .u8 0)]]], .agg [.lit (.int .i64 4), .agg [.agg [.lit (.int .u8 240), .lit (.int .u8 240)], .agg [.lit (.int .u8 144), .lit (.int .u8 191)], .agg [.lit (.int .u8 128), .lit (.int .u8 191)], .agg [.lit (.int .u8 128), .lit (.int .u8 191)]]], .agg [.lit (.int .i64 4), .agg [.agg [.lit (.int .u8 241), .lit (.int .u8 243)], .agg [.lit (.int .u8 128), .lit (.int .u8 191)], .agg [.lit (.int .u8 128), .lit (.int .u8 191)], .agg [.lit (.int .u8 128), .lit (.int .u8 191)]]], .agg [.lit (.int .i64 4), .agg [.agg [.lit (.int .u8 244), .lit (.int .u8 244)], .agg [.lit (.int .u8 128), .lit (.int .u8 143)], .agg [.lit (.int .u8 128), .lit (.int .u8 191)], .agg [.lit (.int .u8 128), .lit (.int .u8 191)]]]]
def laid_polyglot_stamp_places {H : Type} : DataW H := .agg [.lit (.int .i64 0), .lit (.int .i64 3), .lit (.int .i64 6), .lit (.int .i64 9)]

/-- 'polyglotlaw11.MergeTells': WHATEVER THE INPUT: true; the input reads as it did. -/
def mergeTellsSpec : ChangeSpec := { name := "mergeTells", fn := fun _ => fun
  | [d1, d2] => { results := [.lit (.bool true)], args := [d1, d2] }
  | _ => none }
def mergeTellsRow : OpenClaim := { program := "ytjeefgamkoeiaaagreatdoor", sum := "b05141e603a2a12038474cdb21dbe429e1391d4c3d89c67656fd30f6961ab242", func := "polyglot/polyglotlaw11.MergeTells", spec := "mergeTells", inPlace := ["internal/bytealg.abigen_runtime_cmpstring", "slices.overlaps[polyglot/api.Family]"], unfollowed := true, recurses := true, named := ["polyglot/utf.shapes", "polyglot/stamp.places"], apart := false, laid := [("polyglot/utf.shapes", laid_polyglot_utf_shapes), ("polyglot/stamp.places", laid_polyglot_stamp_places)] }
def MergeTellsSaid : Prop := mergeTellsRow.holds Tryz.pinned (OpenSpec.ofChange mergeTellsSpec)

/-- ITS FALSE NEIGHBOUR: 'it returns false'. Refute it at one input. -/
def mergeTellsWrong : ChangeSpec := { name := "mergeTells", fn := fun _ => fun
  | [d1, d2] => { results := [.lit (.bool false)], args := [d1, d2] }
  | _ => none }
def MergeTellsWrongFalsely : Prop := mergeTellsRow.holds Tryz.pinned (OpenSpec.ofChange mergeTellsWrong)

/-- 'polyglotlaw11.MergeSelf': WHATEVER THE INPUT: true; the input reads as it did. -/
def mergeSelfSpec : ChangeSpec := { name := "mergeSelf", fn := fun _ => fun
  | [d1, d2] => { results := [.lit (.bool true)], args := [d1, d2] }
  | _ => none }
def mergeSelfRow : OpenClaim := { program := "ytjeefgamkoeiaaagreatdoor", sum := "b05141e603a2a12038474cdb21dbe429e1391d4c3d89c67656fd30f6961ab242", func := "polyglot/polyglotlaw11.MergeSelf", spec := "mergeSelf", inPlace := ["internal/bytealg.abigen_runtime_cmpstring", "slices.overlaps[polyglot/api.Family]"], unfollowed := true, recurses := true, named := ["polyglot/utf.shapes", "polyglot/stamp.places"], apart := false, laid := [("polyglot/utf.shapes", laid_polyglot_utf_shapes), ("polyglot/stamp.places", laid_polyglot_stamp_places)] }
def MergeSelfSaid : Prop := mergeSelfRow.holds Tryz.pinned (OpenSpec.ofChange mergeSelfSpec)

/-- ITS FALSE NEIGHBOUR: 'it returns false'. Refute it at one input. -/
def mergeSelfWrong : ChangeSpec := { name := "mergeSelf", fn := fun _ => fun
  | [d1, d2] => { results := [.lit (.bool false)], args := [d1, d2] }
  | _ => none }
def MergeSelfWrongFalsely : Prop := mergeSelfRow.holds Tryz.pinned (OpenSpec.ofChange mergeSelfWrong)

/-- 'polyglotlaw11.MergeParts': WHATEVER THE INPUT: true; the input reads as it did. -/
def mergePartsSpec : ChangeSpec := { name := "mergeParts", fn := fun _ => fun
  | [d1, d2, d3] => { results := [.lit (.bool true)], args := [d1, d2, d3] }
  | _ => none }
def mergePartsRow : OpenClaim := { program := "ytjeefgamkoeiaaagreatdoor", sum := "b05141e603a2a12038474cdb21dbe429e1391d4c3d89c67656fd30f6961ab242", func := "polyglot/polyglotlaw11.MergeParts", spec := "mergeParts", inPlace := ["internal/bytealg.abigen_runtime_cmpstring", "slices.overlaps[polyglot/api.Family]"], unfollowed := true, recurses := true, named := ["polyglot/utf.shapes", "polyglot/stamp.places"], apart := false, laid := [("polyglot/utf.shapes", laid_polyglot_utf_shapes), ("polyglot/stamp.places", laid_polyglot_stamp_places)] }
def MergePartsSaid : Prop := mergePartsRow.holds Tryz.pinned (OpenSpec.ofChange mergePartsSpec)

/-- ITS FALSE NEIGHBOUR: 'it returns false'. Refute it at one input. -/
def mergePartsWrong : ChangeSpec := { name := "mergeParts", fn := fun _ => fun
  | [d1, d2, d3] => { results := [.lit (.bool false)], args := [d1, d2, d3] }
  | _ => none }
def MergePartsWrongFalsely : Prop := mergePartsRow.holds Tryz.pinned (OpenSpec.ofChange mergePartsWrong)

/-- 'polyglotlaw11.MergeLater': WHATEVER THE INPUT: true; the input reads as it did. -/
def mergeLaterSpec : ChangeSpec := { name := "mergeLater", fn := fun _ => fun
  | [d] => { results := [.lit (.bool true)], args := [d] }
  | _ => none }
def mergeLaterRow : OpenClaim := { program := "ytjeefgamkoeiaaagreatdoor", sum := "b05141e603a2a12038474cdb21dbe429e1391d4c3d89c67656fd30f6961ab242", func := "polyglot/polyglotlaw11.MergeLater", spec := "mergeLater", inPlace := ["internal/bytealg.abigen_runtime_cmpstring", "slices.overlaps[polyglot/api.Family]"], unfollowed := true, recurses := true, named := ["polyglot/utf.shapes", "polyglot/stamp.places"], apart := false, laid := [("polyglot/utf.shapes", laid_polyglot_utf_shapes), ("polyglot/stamp.places", laid_polyglot_stamp_places)] }
def MergeLaterSaid : Prop := mergeLaterRow.holds Tryz.pinned (OpenSpec.ofChange mergeLaterSpec)

/-- ITS FALSE NEIGHBOUR: 'it returns false'. Refute it at one input. -/
def mergeLaterWrong : ChangeSpec := { name := "mergeLater", fn := fun _ => fun
  | [d] => { results := [.lit (.bool false)], args := [d] }
  | _ => none }
def MergeLaterWrongFalsely : Prop := mergeLaterRow.holds Tryz.pinned (OpenSpec.ofChange mergeLaterWrong)

/-- 'polyglotlaw11.MergeKinds': WHATEVER THE INPUT: true; the input reads as it did. -/
def mergeKindsSpec : ChangeSpec := { name := "mergeKinds", fn := fun _ => fun
  | [d1, d2] => { results := [.lit (.bool true)], args := [d1, d2] }
  | _ => none }
def mergeKindsRow : OpenClaim := { program := "ytjeefgamkoeiaaagreatdoor", sum := "b05141e603a2a12038474cdb21dbe429e1391d4c3d89c67656fd30f6961ab242", func := "polyglot/polyglotlaw11.MergeKinds", spec := "mergeKinds", inPlace := ["internal/bytealg.abigen_runtime_cmpstring", "slices.overlaps[polyglot/api.Family]"], unfollowed := true, recurses := true, named := ["polyglot/utf.shapes", "polyglot/stamp.places"], apart := false, laid := [("polyglot/utf.shapes", laid_polyglot_utf_shapes), ("polyglot/stamp.places", laid_polyglot_stamp_places)] }
def MergeKindsSaid : Prop := mergeKindsRow.holds Tryz.pinned (OpenSpec.ofChange mergeKindsSpec)

/-- ITS FALSE NEIGHBOUR: 'it returns false'. Refute it at one input. -/
def mergeKindsWrong : ChangeSpec := { name := "mergeKinds", fn := fun _ => fun
  | [d1, d2] => { results := [.lit (.bool false)], args := [d1, d2] }
  | _ => none }
def MergeKindsWrongFalsely : Prop := mergeKindsRow.holds Tryz.pinned (OpenSpec.ofChange mergeKindsWrong)

/- THE SECOND FORM. 'bulk': how many values and letters a reading holds, each counted each time it is reached (what is shared counts as often as it is met; a slice's spare places count too). A statement '..UptoSaid' is the law's where the arguments, and the package variables that the reading takes, are together of bulk at most 1048576: NARROWER than '..Said'. Prove '..Said' where nothing that the law and all that it calls make is longer than what came in: it says more and counts as full. Else prove '..UptoSaid'. A law counts once. -/
mutual
def uptoBulk {H : Type} : DataW H → Nat
  | .lit (.string bytes) => bytes.length + 1
  | .lit _ => 1
  | .nil => 1
  | .ptr d => uptoBulk d + 1
  | .slice elems spare => uptoBulkAll elems + uptoBulkAll spare + 1
  | .agg parts => uptoBulkAll parts + 1
  | .iface _ d => uptoBulk d + 1
  | .map entries => uptoBulkEntries entries + 1
  | .held _ => 1
def uptoBulkAll {H : Type} : List (DataW H) → Nat
  | [] => 0
  | d :: r => uptoBulk d + uptoBulkAll r
def uptoBulkEntries {H : Type} : List (Lit × DataW H) → Nat
  | [] => 0
  | x :: r => uptoBulkEntry x + uptoBulkEntries r
def uptoBulkEntry {H : Type} : Lit × DataW H → Nat
  | (.string bytes, d) => bytes.length + uptoBulk d + 1
  | (_, d) => uptoBulk d + 1
 end
def uptoSmall : (H : Type) → List (DataW H) → Bool := fun _ ds => decide (uptoBulkAll ds ≤ 1048576)
def OpenSpec.upto (s : _root_.Go.ChangeSpec) : _root_.Go.OpenSpec := { _root_.Go.OpenSpec.ofChange s with cond := some uptoSmall }

/-- 'polyglotlaw11.MergeTells', WHERE WHAT IT READS IS OF BULK AT MOST 1048576: true; the input reads as it did. -/
def mergeTellsUptoRow : OpenClaim := { program := "ytjeefgamkoeiaaagreatdoor", sum := "b05141e603a2a12038474cdb21dbe429e1391d4c3d89c67656fd30f6961ab242", func := "polyglot/polyglotlaw11.MergeTells", spec := "mergeTells", inPlace := ["internal/bytealg.abigen_runtime_cmpstring", "slices.overlaps[polyglot/api.Family]"], unfollowed := true, recurses := true, named := ["polyglot/utf.shapes", "polyglot/stamp.places"], apart := false, laid := [("polyglot/utf.shapes", laid_polyglot_utf_shapes), ("polyglot/stamp.places", laid_polyglot_stamp_places)], narrowed := true }
def MergeTellsUptoSaid : Prop := mergeTellsUptoRow.holds Tryz.pinned (OpenSpec.upto mergeTellsSpec)

/-- 'polyglotlaw11.MergeSelf', WHERE WHAT IT READS IS OF BULK AT MOST 1048576: true; the input reads as it did. -/
def mergeSelfUptoRow : OpenClaim := { program := "ytjeefgamkoeiaaagreatdoor", sum := "b05141e603a2a12038474cdb21dbe429e1391d4c3d89c67656fd30f6961ab242", func := "polyglot/polyglotlaw11.MergeSelf", spec := "mergeSelf", inPlace := ["internal/bytealg.abigen_runtime_cmpstring", "slices.overlaps[polyglot/api.Family]"], unfollowed := true, recurses := true, named := ["polyglot/utf.shapes", "polyglot/stamp.places"], apart := false, laid := [("polyglot/utf.shapes", laid_polyglot_utf_shapes), ("polyglot/stamp.places", laid_polyglot_stamp_places)], narrowed := true }
def MergeSelfUptoSaid : Prop := mergeSelfUptoRow.holds Tryz.pinned (OpenSpec.upto mergeSelfSpec)

/-- 'polyglotlaw11.MergeParts', WHERE WHAT IT READS IS OF BULK AT MOST 1048576: true; the input reads as it did. -/
def mergePartsUptoRow : OpenClaim := { program := "ytjeefgamkoeiaaagreatdoor", sum := "b05141e603a2a12038474cdb21dbe429e1391d4c3d89c67656fd30f6961ab242", func := "polyglot/polyglotlaw11.MergeParts", spec := "mergeParts", inPlace := ["internal/bytealg.abigen_runtime_cmpstring", "slices.overlaps[polyglot/api.Family]"], unfollowed := true, recurses := true, named := ["polyglot/utf.shapes", "polyglot/stamp.places"], apart := false, laid := [("polyglot/utf.shapes", laid_polyglot_utf_shapes), ("polyglot/stamp.places", laid_polyglot_stamp_places)], narrowed := true }
def MergePartsUptoSaid : Prop := mergePartsUptoRow.holds Tryz.pinned (OpenSpec.upto mergePartsSpec)

/-- 'polyglotlaw11.MergeLater', WHERE WHAT IT READS IS OF BULK AT MOST 1048576: true; the input reads as it did. -/
def mergeLaterUptoRow : OpenClaim := { program := "ytjeefgamkoeiaaagreatdoor", sum := "b05141e603a2a12038474cdb21dbe429e1391d4c3d89c67656fd30f6961ab242", func := "polyglot/polyglotlaw11.MergeLater", spec := "mergeLater", inPlace := ["internal/bytealg.abigen_runtime_cmpstring", "slices.overlaps[polyglot/api.Family]"], unfollowed := true, recurses := true, named := ["polyglot/utf.shapes", "polyglot/stamp.places"], apart := false, laid := [("polyglot/utf.shapes", laid_polyglot_utf_shapes), ("polyglot/stamp.places", laid_polyglot_stamp_places)], narrowed := true }
def MergeLaterUptoSaid : Prop := mergeLaterUptoRow.holds Tryz.pinned (OpenSpec.upto mergeLaterSpec)

/-- 'polyglotlaw11.MergeKinds', WHERE WHAT IT READS IS OF BULK AT MOST 1048576: true; the input reads as it did. -/
def mergeKindsUptoRow : OpenClaim := { program := "ytjeefgamkoeiaaagreatdoor", sum := "b05141e603a2a12038474cdb21dbe429e1391d4c3d89c67656fd30f6961ab242", func := "polyglot/polyglotlaw11.MergeKinds", spec := "mergeKinds", inPlace := ["internal/bytealg.abigen_runtime_cmpstring", "slices.overlaps[polyglot/api.Family]"], unfollowed := true, recurses := true, named := ["polyglot/utf.shapes", "polyglot/stamp.places"], apart := false, laid := [("polyglot/utf.shapes", laid_polyglot_utf_shapes), ("polyglot/stamp.places", laid_polyglot_stamp_places)], narrowed := true }
def MergeKindsUptoSaid : Prop := mergeKindsUptoRow.holds Tryz.pinned (OpenSpec.upto mergeKindsSpec)

end Rows
end Go.Proofs.YtjeefgamkoeiaaaGreatDoor
