/-
  NARROWER THAN 'FOR EVERY INPUT', by the rows' own cells (each row's printed sentence says how): BatchSorts: laid · BatchLimits: laid · BatchOf: laid.
  DERIVED. THE GIVEN ROWS OF THIS SEAT. 3 by the template 'for every input the law returns true; each argument reads behind the call as it read before'; 0 by the template 'total and deterministic' (their statements: YtkmcjmpdmgdcoaaGreatDoorTotals.lean).
  GIVEN WITH THE SEED: the statements are not yours to turn. If you find one false, say at which input.
  Laid BY PROGRAM, IN A SANDBOX (cutbox-rows.mjs): the forced cells as the released guide's own fill.sh prints them over the translation ffd9be6e3f0e24d1… (all of the seat's roots in one cut). By AI agents, Wed Nov 11 2026. No macro, syntax, notation, axiom, sorry.
-/
import Derived.Test.YtkmcjmpdmgdcoaaGreatDoorChecked
import GoSem.Claim
import GoSem.ClaimJoined
import GoSem.ClaimMapViews
import Derived.JoinedTies
import Derived.KernelRfl
namespace Go.Proofs.YtkmcjmpdmgdcoaaGreatDoor
/- THE CELL 'sum', in the pinned program and in every row, IS THE sha256 OF THE DUMP (.gsa) THAT YtkmcjmpdmgdcoaaGreatDoorProg.lean LOADS. Nothing in Lean hashes anything: it is a label: what it is worth is what the hold of that sum in a sandbox is worth. -/
noncomputable def Tryz.pinned : Pinned := { name := "ytkmcjmpdmgdcoaagreatdoor", sum := "ffd9be6e3f0e24d14dd9f9bbd36cc6a7e6b9b5a719e6611fa097058de19bf61a", checked := Tryz.checked }
namespace Rows
def none {H : Type} : Left H := { results := [], args := [] }

/- WHAT THE LISTED PACKAGE-LEVEL VARIABLES READ AS WHEN THE CALL BEGINS. Each datum BY PROGRAM (the guide's laid-datum.mjs) off the statement by which the dump's own 'gosem.cut.vars' lays the variable. In a bare row this is a premise. The card (YtkmcjmpdmgdcoaaGreatDoorCards.lean) ties it to the program's text. -/
def laid_polyglot_utf_shapes {H : Type} : DataW H := .agg [.agg [.lit (.int .i64 1), .agg [.agg [.lit (.int .u8 0), .lit (.int .u8 127)], .agg [.lit (.int .u8 0), .lit (.int .u8 0)], .agg [.lit (.int .u8 0), .lit (.int .u8 0)], .agg [.lit (.int .u8 0), .lit (.int .u8 0)]]], .agg [.lit (.int .i64 2), .agg [.agg [.lit (.int .u8 194), .lit (.int .u8 223)], .agg [.lit (.int .u8 128), .lit (.int .u8 191)], .agg [.lit (.int .u8 0), .lit (.int .u8 0)], .agg [.lit (.int .u8 0), .lit (.int .u8 0)]]], .agg [.lit (.int .i64 3), .agg [.agg [.lit (.int .u8 224), .lit (.int .u8 224)], .agg [.lit (.int .u8 160), .lit (.int .u8 191)], .agg [.lit (.int .u8 128), .lit (.int .u8 191)], .agg [.lit (.int .u8 0), .lit (.int .u8 0)]]], .agg [.lit (.int .i64 3), .agg [.agg [.lit (.int .u8 225), .lit (.int .u8 236)], .agg [.lit (.int .u8 128), .lit (.int .u8 191)], .agg [.lit (.int .u8 128), .lit (.int .u8 191)], .agg [.lit (.int .u8 0), .lit (.int .u8 0)]]], .agg [.lit (.int .i64 3), .agg [.agg [.lit (.int .u8 237), .lit (.int .u8 237)], .agg [.lit (.int .u8 128), .lit (.int .u8 159)], .agg [.lit (.int .u8 128), .lit (.int .u8 191)], .agg [.lit (.int .u8 0), .lit (.int .u8 0)]]], .agg [.lit (.int .i64 3), .agg [.agg [.lit (.int .u8 238), .lit (.int .u8 239)], .agg [.lit (.int .u8 128), .lit (.int .u8 191)], .agg [.lit (.int .u8 128), .lit (.int .u8 191)], .agg [.lit (.int .u8 0), .lit (.int .u8 0)]]], .agg [.lit (.int .i64 4), .agg [.agg [.lit (.int .u8 240), .lit (.int .u8 240)], .agg [.lit (.int .u8 144), .lit (.int .u8 191)], .agg [.lit (.int .u8 128), .lit (.int .u8 191)], .agg [.lit (.int .u8 128), .lit (.int .u8 191)]]], .agg [.lit (.int .i64 4), .agg [.agg [.lit (.int .u8 241), .lit (.int .u8 243)], .agg [.lit (.int .u8 128), .lit (.int .u8 191)], .agg [.lit (.int .u8 128), .lit (.int .u8 191)], .agg [.lit (.int .u8 128), .lit (.int .u8 191)]]], .agg [.lit (.int .i64 4), .agg [.agg [.lit (.int .u8 244), .lit (.int .u8 244)], .agg [.lit (.int .u8 128), .lit (.int .u8 143)], .agg [.lit (.int .u8 128), .lit (.int .u8 191)], .agg [.lit (.int .u8 128), .lit (.int .u8 191)]]]]
def laid_polyglot_stamp_places {H : Type} : DataW H := .agg [.lit (.int .i64 0), .lit (.int .i64 3), .lit (.int .i64 6), .lit (.int .i64 9)]

/-- 'polyglotlaw10.BatchSorts': WHATEVER THE INPUT: true; the input reads as it did. -/
def batchSortsSpec : ChangeSpec := { name := "batchSorts", fn := fun _ => fun
  | [d1, d2] => { results := [.lit (.bool true)], args := [d1, d2] }
  | _ => none }
def batchSortsRow : OpenClaim := { program := "ytkmcjmpdmgdcoaagreatdoor", sum := "ffd9be6e3f0e24d14dd9f9bbd36cc6a7e6b9b5a719e6611fa097058de19bf61a", func := "polyglot/polyglotlaw10.BatchSorts", spec := "batchSorts", inPlace := ["internal/bytealg.abigen_runtime_cmpstring"], unfollowed := true, recurses := true, named := ["polyglot/utf.shapes", "polyglot/stamp.places"], apart := false, laid := [("polyglot/utf.shapes", laid_polyglot_utf_shapes), ("polyglot/stamp.places", laid_polyglot_stamp_places)] }
def BatchSortsSaid : Prop := batchSortsRow.holds Tryz.pinned (OpenSpec.ofChange batchSortsSpec)

/-- ITS FALSE NEIGHBOUR: 'it returns false'. Refute it at one input. -/
def batchSortsWrong : ChangeSpec := { name := "batchSorts", fn := fun _ => fun
  | [d1, d2] => { results := [.lit (.bool false)], args := [d1, d2] }
  | _ => none }
def BatchSortsWrongFalsely : Prop := batchSortsRow.holds Tryz.pinned (OpenSpec.ofChange batchSortsWrong)

/-- 'polyglotlaw10.BatchLimits': WHATEVER THE INPUT: true; the input reads as it did. -/
def batchLimitsSpec : ChangeSpec := { name := "batchLimits", fn := fun _ => fun
  | [d1, d2, d3] => { results := [.lit (.bool true)], args := [d1, d2, d3] }
  | _ => none }
def batchLimitsRow : OpenClaim := { program := "ytkmcjmpdmgdcoaagreatdoor", sum := "ffd9be6e3f0e24d14dd9f9bbd36cc6a7e6b9b5a719e6611fa097058de19bf61a", func := "polyglot/polyglotlaw10.BatchLimits", spec := "batchLimits", inPlace := ["internal/bytealg.abigen_runtime_cmpstring"], unfollowed := true, recurses := true, named := ["polyglot/utf.shapes", "polyglot/stamp.places"], apart := false, laid := [("polyglot/utf.shapes", laid_polyglot_utf_shapes), ("polyglot/stamp.places", laid_polyglot_stamp_places)] }
def BatchLimitsSaid : Prop := batchLimitsRow.holds Tryz.pinned (OpenSpec.ofChange batchLimitsSpec)

/-- ITS FALSE NEIGHBOUR: 'it returns false'. Refute it at one input. -/
def batchLimitsWrong : ChangeSpec := { name := "batchLimits", fn := fun _ => fun
  | [d1, d2, d3] => { results := [.lit (.bool false)], args := [d1, d2, d3] }
  | _ => none }
def BatchLimitsWrongFalsely : Prop := batchLimitsRow.holds Tryz.pinned (OpenSpec.ofChange batchLimitsWrong)

/-- 'polyglotlaw10.BatchOf': WHATEVER THE INPUT: true; the input reads as it did. -/
def batchOfSpec : ChangeSpec := { name := "batchOf", fn := fun _ => fun
  | [d1, d2] => { results := [.lit (.bool true)], args := [d1, d2] }
  | _ => none }
def batchOfRow : OpenClaim := { program := "ytkmcjmpdmgdcoaagreatdoor", sum := "ffd9be6e3f0e24d14dd9f9bbd36cc6a7e6b9b5a719e6611fa097058de19bf61a", func := "polyglot/polyglotlaw10.BatchOf", spec := "batchOf", inPlace := ["internal/bytealg.abigen_runtime_cmpstring"], unfollowed := true, recurses := true, named := ["polyglot/utf.shapes", "polyglot/stamp.places"], apart := false, laid := [("polyglot/utf.shapes", laid_polyglot_utf_shapes), ("polyglot/stamp.places", laid_polyglot_stamp_places)] }
def BatchOfSaid : Prop := batchOfRow.holds Tryz.pinned (OpenSpec.ofChange batchOfSpec)

/-- ITS FALSE NEIGHBOUR: 'it returns false'. Refute it at one input. -/
def batchOfWrong : ChangeSpec := { name := "batchOf", fn := fun _ => fun
  | [d1, d2] => { results := [.lit (.bool false)], args := [d1, d2] }
  | _ => none }
def BatchOfWrongFalsely : Prop := batchOfRow.holds Tryz.pinned (OpenSpec.ofChange batchOfWrong)

/- THE SECOND FORM. 'bulk': how many values and letters a reading holds, each counted each time it is reached (what is shared counts as often as it is met; a slice's spare places count too). A statement '..UptoSaid' is the law's where the arguments, and the package variables that the reading takes, are together of bulk at most 1048576: NARROWER than '..Said'. Prove '..Said' where nothing that the law and all that it calls make is longer than what came in: it says more and counts as full. Else prove '..UptoSaid'. A law counts once. -/
mutual
def uptoBulk {H : Type} : DataW H → Nat
  | .lit (.string bytes) => bytes.length + 1
  | .lit _ => 1
  | .nil => 1
  | .ptr d => uptoBulk d + 1
  | .slice elems spare => uptoBulkAll elems + uptoBulkAll spare + 1
  | .agg parts => uptoBulkAll parts + 1
  | .iface _ d => uptoBulk d + 1
  | .map entries => uptoBulkEntries entries + 1
  | .held _ => 1
def uptoBulkAll {H : Type} : List (DataW H) → Nat
  | [] => 0
  | d :: r => uptoBulk d + uptoBulkAll r
def uptoBulkEntries {H : Type} : List (Lit × DataW H) → Nat
  | [] => 0
  | x :: r => uptoBulkEntry x + uptoBulkEntries r
def uptoBulkEntry {H : Type} : Lit × DataW H → Nat
  | (.string bytes, d) => bytes.length + uptoBulk d + 1
  | (_, d) => uptoBulk d + 1
 end
def uptoSmall : (H : Type) → List (DataW H) → Bool := fun _ ds => decide (uptoBulkAll ds ≤ 1048576)
def OpenSpec.upto (s : _root_.Go.ChangeSpec) : _root_.Go.OpenSpec := { _root_.Go.OpenSpec.ofChange s with cond := some uptoSmall }

/-- 'polyglotlaw10.BatchSorts', WHERE WHAT IT READS IS OF BULK AT MOST 1048576: true; the input reads as it did. -/
def batchSortsUptoRow : OpenClaim := { program := "ytkmcjmpdmgdcoaagreatdoor", sum := "ffd9be6e3f0e24d14dd9f9bbd36cc6a7e6b9b5a719e6611fa097058de19bf61a", func := "polyglot/polyglotlaw10.BatchSorts", spec := "batchSorts", inPlace := ["internal/bytealg.abigen_runtime_cmpstring"], unfollowed := true, recurses := true, named := ["polyglot/utf.shapes", "polyglot/stamp.places"], apart := false, laid := [("polyglot/utf.shapes", laid_polyglot_utf_shapes), ("polyglot/stamp.places", laid_polyglot_stamp_places)], narrowed := true }
def BatchSortsUptoSaid : Prop := batchSortsUptoRow.holds Tryz.pinned (OpenSpec.upto batchSortsSpec)

/-- 'polyglotlaw10.BatchLimits', WHERE WHAT IT READS IS OF BULK AT MOST 1048576: true; the input reads as it did. -/
def batchLimitsUptoRow : OpenClaim := { program := "ytkmcjmpdmgdcoaagreatdoor", sum := "ffd9be6e3f0e24d14dd9f9bbd36cc6a7e6b9b5a719e6611fa097058de19bf61a", func := "polyglot/polyglotlaw10.BatchLimits", spec := "batchLimits", inPlace := ["internal/bytealg.abigen_runtime_cmpstring"], unfollowed := true, recurses := true, named := ["polyglot/utf.shapes", "polyglot/stamp.places"], apart := false, laid := [("polyglot/utf.shapes", laid_polyglot_utf_shapes), ("polyglot/stamp.places", laid_polyglot_stamp_places)], narrowed := true }
def BatchLimitsUptoSaid : Prop := batchLimitsUptoRow.holds Tryz.pinned (OpenSpec.upto batchLimitsSpec)

/-- 'polyglotlaw10.BatchOf', WHERE WHAT IT READS IS OF BULK AT MOST 1048576: true; the input reads as it did. -/
def batchOfUptoRow : OpenClaim := { program := "ytkmcjmpdmgdcoaagreatdoor", sum := "ffd9be6e3f0e24d14dd9f9bbd36cc6a7e6b9b5a719e6611fa097058de19bf61a", func := "polyglot/polyglotlaw10.BatchOf", spec := "batchOf", inPlace := ["internal/bytealg.abigen_runtime_cmpstring"], unfollowed := true, recurses := true, named := ["polyglot/utf.shapes", "polyglot/stamp.places"], apart := false, laid := [("polyglot/utf.shapes", laid_polyglot_utf_shapes), ("polyglot/stamp.places", laid_polyglot_stamp_places)], narrowed := true }
def BatchOfUptoSaid : Prop := batchOfUptoRow.holds Tryz.pinned (OpenSpec.upto batchOfSpec)

end Rows
end Go.Proofs.YtkmcjmpdmgdcoaaGreatDoor
