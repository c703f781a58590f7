/-
  NARROWER THAN 'FOR EVERY INPUT', by the rows' own cells (each row's printed sentence says how): FamilySorts: laid · FamilySeries: laid · FamilyKinds: laid · FamilyHeads: laid.
  DERIVED. THE GIVEN ROWS OF THIS SEAT. 4 by the template 'for every input the law returns true; each argument reads behind the call as it read before'; 0 by the template 'total and deterministic' (their statements: YtjkaggkamcfahaaDoorTotals.lean).
  GIVEN WITH THE SEED: the statements are not yours to turn. If you find one false, say at which input.
  Laid BY PROGRAM, IN A SANDBOX (cutbox-rows.mjs): the forced cells as the released guide's own fill.sh prints them over the translation 7144e9e24b49f7e7… (all of the seat's roots in one cut). By AI agents, Wed Nov 11 2026. No macro, syntax, notation, axiom, sorry.
-/
import Derived.Test.YtjkaggkamcfahaaDoorChecked
import GoSem.Claim
import GoSem.ClaimJoined
import GoSem.ClaimMapViews
import Derived.JoinedTies
import Derived.KernelRfl
namespace Go.Proofs.YtjkaggkamcfahaaDoor
/- THE CELL 'sum', in the pinned program and in every row, IS THE sha256 OF THE DUMP (.gsa) THAT YtjkaggkamcfahaaDoorProg.lean LOADS. Nothing in Lean hashes anything: it is a label: what it is worth is what the hold of that sum in a sandbox is worth. -/
noncomputable def Tryd.pinned : Pinned := { name := "ytjkaggkamcfahaadoor", sum := "7144e9e24b49f7e799f35d9a4e98893e23bfea175a1d423f608737f1e58f7808", checked := Tryd.checked }
namespace Rows
def none {H : Type} : Left H := { results := [], args := [] }

/- WHAT THE LISTED PACKAGE-LEVEL VARIABLES READ AS WHEN THE CALL BEGINS. Each datum BY PROGRAM (the guide's laid-datum.mjs) off the statement by which the dump's own 'gosem.cut.vars' lays the variable. In a bare row this is a premise. The card (YtjkaggkamcfahaaDoorCards.lean) ties it to the program's text. -/
def laid_polyglot_utf_shapes {H : Type} : DataW H := .agg [.agg [.lit (.int .i64 1), .agg [.agg [.lit (.int .u8 0), .lit (.int .u8 127)], .agg [.lit (.int .u8 0), .lit (.int .u8 0)], .agg [.lit (.int .u8 0), .lit (.int .u8 0)], .agg [.lit (.int .u8 0), .lit (.int .u8 0)]]], .agg [.lit (.int .i64 2), .agg [.agg [.lit (.int .u8 194), .lit (.int .u8 223)], .agg [.lit (.int .u8 128), .lit (.int .u8 191)], .agg [.lit (.int .u8 0), .lit (.int .u8 0)], .agg [.lit (.int .u8 0), .lit (.int .u8 0)]]], .agg [.lit (.int .i64 3), .agg [.agg [.lit (.int .u8 224), .lit (.int .u8 224)], .agg [.lit (.int .u8 160), .lit (.int .u8 191)], .agg [.lit (.int .u8 128), .lit (.int .u8 191)], .agg [.lit (.int .u8 0), .lit (.int .u8 0)]]], .agg [.lit (.int .i64 3), .agg [.agg [.lit (.int .u8 225), .lit (.int .u8 236)], .agg [.lit (.int .u8 128), .lit (.int .u8 191)], .agg [.lit (.int .u8 128), .lit (.int .u8 191)], .agg [.lit (.int .u8 0), .lit (.int .u8 0)]]], .agg [.lit (.int .i64 3), .agg [.agg [.lit (.int .u8 237), .lit (.int .u8 237)], .agg [.lit (.int .u8 128), .lit (.int .u8 159)], .agg [.lit (.int .u8 128), .lit (.int .u8 191)], .agg [.lit (.int .u8 0), .lit (.int .u8 0)]]], .agg [.lit (.int .i64 3), .agg [.agg [.lit (.int .u8 238), .lit (.int .u8 239)], .agg [.lit (.int .u8 128), .lit (.int .u8 191)], .agg [.lit (.int .u8 128), .lit (.int .u8 191)], .agg [.lit (.int .u8 0), .lit (.int .u8 0)]]], .agg [.lit (.int .i64 4), .agg [.agg [.lit (.int .u8 240), .lit (.int .u8 240)], .agg [.lit (.int .u8 144), .lit (.int .u8 191)], .agg [.lit (.int .u8 128), .lit (.int .u8 191)], .agg [.lit (.int .u8 128), .lit (.int .u8 191)]]], .agg [.lit (.int .i64 4), .agg [.agg [.lit (.int .u8 241), .lit (.int .u8 243)], .agg [.lit (.int .u8 128), .lit (.int .u8 191)], .agg [.lit (.int .u8 128), .lit (.int .u8 191)], .agg [.lit (.int .u8 128), .lit (.int .u8 191)]]], .agg [.lit (.int .i64 4), .agg [.agg [.lit (.int .u8 244), .lit (.int .u8 244)], .agg [.lit (.int .u8 128), .lit (.int .u8 143)], .agg [.lit (.int .u8 128), .lit (.int .u8 191)], .agg [.lit (.int .u8 128), .lit (.int .u8 191)]]]]
def laid_polyglot_stamp_places {H : Type} : DataW H := .agg [.lit (.int .i64 0), .lit (.int .i64 3), .lit (.int .i64 6), .lit (.int .i64 9)]
def laid_polyglot_family_words {H : Type} : DataW H := .agg [.lit (.string [117, 110, 107, 110, 111, 119, 110]), .lit (.string [103, 97, 117, 103, 101]), .lit (.string [99, 111, 117, 110, 116, 101, 114]), .lit (.string [104, 105, 115, 116, 111, 103, 114, 97, 109]), .lit (.string [115, 117, 109, 109, 97, 114, 121])]

/-- 'polyglotlaw9.FamilySorts': WHATEVER THE INPUT: true; the input reads as it did. -/
def familySortsSpec : ChangeSpec := { name := "familySorts", fn := fun _ => fun
  | [d1, d2] => { results := [.lit (.bool true)], args := [d1, d2] }
  | _ => none }
def familySortsRow : OpenClaim := { program := "ytjkaggkamcfahaadoor", sum := "7144e9e24b49f7e799f35d9a4e98893e23bfea175a1d423f608737f1e58f7808", func := "polyglot/polyglotlaw9.FamilySorts", spec := "familySorts", inPlace := ["internal/bytealg.abigen_runtime_cmpstring"], unfollowed := true, recurses := true, named := ["polyglot/family.words", "polyglot/utf.shapes", "polyglot/stamp.places"], apart := false, laid := [("polyglot/utf.shapes", laid_polyglot_utf_shapes), ("polyglot/stamp.places", laid_polyglot_stamp_places), ("polyglot/family.words", laid_polyglot_family_words)] }
def FamilySortsSaid : Prop := familySortsRow.holds Tryd.pinned (OpenSpec.ofChange familySortsSpec)

/-- ITS FALSE NEIGHBOUR: 'it returns false'. Refute it at one input. -/
def familySortsWrong : ChangeSpec := { name := "familySorts", fn := fun _ => fun
  | [d1, d2] => { results := [.lit (.bool false)], args := [d1, d2] }
  | _ => none }
def FamilySortsWrongFalsely : Prop := familySortsRow.holds Tryd.pinned (OpenSpec.ofChange familySortsWrong)

/-- 'polyglotlaw9.FamilySeries': WHATEVER THE INPUT: true; the input reads as it did. -/
def familySeriesSpec : ChangeSpec := { name := "familySeries", fn := fun _ => fun
  | [d1, d2] => { results := [.lit (.bool true)], args := [d1, d2] }
  | _ => none }
def familySeriesRow : OpenClaim := { program := "ytjkaggkamcfahaadoor", sum := "7144e9e24b49f7e799f35d9a4e98893e23bfea175a1d423f608737f1e58f7808", func := "polyglot/polyglotlaw9.FamilySeries", spec := "familySeries", inPlace := ["internal/bytealg.abigen_runtime_cmpstring"], unfollowed := true, recurses := true, named := ["polyglot/family.words", "polyglot/utf.shapes", "polyglot/stamp.places"], apart := false, laid := [("polyglot/utf.shapes", laid_polyglot_utf_shapes), ("polyglot/stamp.places", laid_polyglot_stamp_places), ("polyglot/family.words", laid_polyglot_family_words)] }
def FamilySeriesSaid : Prop := familySeriesRow.holds Tryd.pinned (OpenSpec.ofChange familySeriesSpec)

/-- ITS FALSE NEIGHBOUR: 'it returns false'. Refute it at one input. -/
def familySeriesWrong : ChangeSpec := { name := "familySeries", fn := fun _ => fun
  | [d1, d2] => { results := [.lit (.bool false)], args := [d1, d2] }
  | _ => none }
def FamilySeriesWrongFalsely : Prop := familySeriesRow.holds Tryd.pinned (OpenSpec.ofChange familySeriesWrong)

/-- 'polyglotlaw9.FamilyKinds': WHATEVER THE INPUT: true; the input reads as it did. -/
def familyKindsSpec : ChangeSpec := { name := "familyKinds", fn := fun _ => fun
  | [d1, d2] => { results := [.lit (.bool true)], args := [d1, d2] }
  | _ => none }
def familyKindsRow : OpenClaim := { program := "ytjkaggkamcfahaadoor", sum := "7144e9e24b49f7e799f35d9a4e98893e23bfea175a1d423f608737f1e58f7808", func := "polyglot/polyglotlaw9.FamilyKinds", spec := "familyKinds", inPlace := ["internal/bytealg.abigen_runtime_cmpstring"], unfollowed := true, recurses := true, named := ["polyglot/family.words", "polyglot/utf.shapes", "polyglot/stamp.places"], apart := false, laid := [("polyglot/utf.shapes", laid_polyglot_utf_shapes), ("polyglot/stamp.places", laid_polyglot_stamp_places), ("polyglot/family.words", laid_polyglot_family_words)] }
def FamilyKindsSaid : Prop := familyKindsRow.holds Tryd.pinned (OpenSpec.ofChange familyKindsSpec)

/-- ITS FALSE NEIGHBOUR: 'it returns false'. Refute it at one input. -/
def familyKindsWrong : ChangeSpec := { name := "familyKinds", fn := fun _ => fun
  | [d1, d2] => { results := [.lit (.bool false)], args := [d1, d2] }
  | _ => none }
def FamilyKindsWrongFalsely : Prop := familyKindsRow.holds Tryd.pinned (OpenSpec.ofChange familyKindsWrong)

/-- 'polyglotlaw9.FamilyHeads': WHATEVER THE INPUT: true; the input reads as it did. -/
def familyHeadsSpec : ChangeSpec := { name := "familyHeads", fn := fun _ => fun
  | [d1, d2, d3] => { results := [.lit (.bool true)], args := [d1, d2, d3] }
  | _ => none }
def familyHeadsRow : OpenClaim := { program := "ytjkaggkamcfahaadoor", sum := "7144e9e24b49f7e799f35d9a4e98893e23bfea175a1d423f608737f1e58f7808", func := "polyglot/polyglotlaw9.FamilyHeads", spec := "familyHeads", inPlace := ["internal/bytealg.abigen_runtime_cmpstring"], unfollowed := true, recurses := true, named := ["polyglot/family.words", "polyglot/utf.shapes", "polyglot/stamp.places"], apart := false, laid := [("polyglot/utf.shapes", laid_polyglot_utf_shapes), ("polyglot/stamp.places", laid_polyglot_stamp_places), ("polyglot/family.words", laid_polyglot_family_words)] }
def FamilyHeadsSaid : Prop := familyHeadsRow.holds Tryd.pinned (OpenSpec.ofChange familyHeadsSpec)

/-- ITS FALSE NEIGHBOUR: 'it returns false'. Refute it at one input. -/
def familyHeadsWrong : ChangeSpec := { name := "familyHeads", fn := fun _ => fun
  | [d1, d2, d3] => { results := [.lit (.bool false)], args := [d1, d2, d3] }
  | _ => none }
def FamilyHeadsWrongFalsely : Prop := familyHeadsRow.holds Tryd.pinned (OpenSpec.ofChange familyHeadsWrong)

/- THE SECOND FORM. 'bulk': how many values and letters a reading holds, each counted each time it is reached (what is shared counts as often as it is met; a slice's spare places count too). A statement '..UptoSaid' is the law's where the arguments, and the package variables that the reading takes, are together of bulk at most 1048576: NARROWER than '..Said'. Prove '..Said' where nothing that the law and all that it calls make is longer than what came in: it says more and counts as full. Else prove '..UptoSaid'. A law counts once. -/
mutual
def uptoBulk {H : Type} : DataW H → Nat
  | .lit (.string bytes) => bytes.length + 1
  | .lit _ => 1
  | .nil => 1
  | .ptr d => uptoBulk d + 1
  | .slice elems spare => uptoBulkAll elems + uptoBulkAll spare + 1
  | .agg parts => uptoBulkAll parts + 1
  | .iface _ d => uptoBulk d + 1
  | .map entries => uptoBulkEntries entries + 1
  | .held _ => 1
def uptoBulkAll {H : Type} : List (DataW H) → Nat
  | [] => 0
  | d :: r => uptoBulk d + uptoBulkAll r
def uptoBulkEntries {H : Type} : List (Lit × DataW H) → Nat
  | [] => 0
  | x :: r => uptoBulkEntry x + uptoBulkEntries r
def uptoBulkEntry {H : Type} : Lit × DataW H → Nat
  | (.string bytes, d) => bytes.length + uptoBulk d + 1
  | (_, d) => uptoBulk d + 1
 end
def uptoSmall : (H : Type) → List (DataW H) → Bool := fun _ ds => decide (uptoBulkAll ds ≤ 1048576)
def OpenSpec.upto (s : _root_.Go.ChangeSpec) : _root_.Go.OpenSpec := { _root_.Go.OpenSpec.ofChange s with cond := some uptoSmall }

/-- 'polyglotlaw9.FamilySorts', WHERE WHAT IT READS IS OF BULK AT MOST 1048576: true; the input reads as it did. -/
def familySortsUptoRow : OpenClaim := { program := "ytjkaggkamcfahaadoor", sum := "7144e9e24b49f7e799f35d9a4e98893e23bfea175a1d423f608737f1e58f7808", func := "polyglot/polyglotlaw9.FamilySorts", spec := "familySorts", inPlace := ["internal/bytealg.abigen_runtime_cmpstring"], unfollowed := true, recurses := true, named := ["polyglot/family.words", "polyglot/utf.shapes", "polyglot/stamp.places"], apart := false, laid := [("polyglot/utf.shapes", laid_polyglot_utf_shapes), ("polyglot/stamp.places", laid_polyglot_stamp_places), ("polyglot/family.words", laid_polyglot_family_words)], narrowed := true }
def FamilySortsUptoSaid : Prop := familySortsUptoRow.holds Tryd.pinned (OpenSpec.upto familySortsSpec)

/-- 'polyglotlaw9.FamilySeries', WHERE WHAT IT READS IS OF BULK AT MOST 1048576: true; the input reads as it did. -/
def familySeriesUptoRow : OpenClaim := { program := "ytjkaggkamcfahaadoor", sum := "7144e9e24b49f7e799f35d9a4e98893e23bfea175a1d423f608737f1e58f7808", func := "polyglot/polyglotlaw9.FamilySeries", spec := "familySeries", inPlace := ["internal/bytealg.abigen_runtime_cmpstring"], unfollowed := true, recurses := true, named := ["polyglot/family.words", "polyglot/utf.shapes", "polyglot/stamp.places"], apart := false, laid := [("polyglot/utf.shapes", laid_polyglot_utf_shapes), ("polyglot/stamp.places", laid_polyglot_stamp_places), ("polyglot/family.words", laid_polyglot_family_words)], narrowed := true }
def FamilySeriesUptoSaid : Prop := familySeriesUptoRow.holds Tryd.pinned (OpenSpec.upto familySeriesSpec)

/-- 'polyglotlaw9.FamilyKinds', WHERE WHAT IT READS IS OF BULK AT MOST 1048576: true; the input reads as it did. -/
def familyKindsUptoRow : OpenClaim := { program := "ytjkaggkamcfahaadoor", sum := "7144e9e24b49f7e799f35d9a4e98893e23bfea175a1d423f608737f1e58f7808", func := "polyglot/polyglotlaw9.FamilyKinds", spec := "familyKinds", inPlace := ["internal/bytealg.abigen_runtime_cmpstring"], unfollowed := true, recurses := true, named := ["polyglot/family.words", "polyglot/utf.shapes", "polyglot/stamp.places"], apart := false, laid := [("polyglot/utf.shapes", laid_polyglot_utf_shapes), ("polyglot/stamp.places", laid_polyglot_stamp_places), ("polyglot/family.words", laid_polyglot_family_words)], narrowed := true }
def FamilyKindsUptoSaid : Prop := familyKindsUptoRow.holds Tryd.pinned (OpenSpec.upto familyKindsSpec)

/-- 'polyglotlaw9.FamilyHeads', WHERE WHAT IT READS IS OF BULK AT MOST 1048576: true; the input reads as it did. -/
def familyHeadsUptoRow : OpenClaim := { program := "ytjkaggkamcfahaadoor", sum := "7144e9e24b49f7e799f35d9a4e98893e23bfea175a1d423f608737f1e58f7808", func := "polyglot/polyglotlaw9.FamilyHeads", spec := "familyHeads", inPlace := ["internal/bytealg.abigen_runtime_cmpstring"], unfollowed := true, recurses := true, named := ["polyglot/family.words", "polyglot/utf.shapes", "polyglot/stamp.places"], apart := false, laid := [("polyglot/utf.shapes", laid_polyglot_utf_shapes), ("polyglot/stamp.places", laid_polyglot_stamp_places), ("polyglot/family.words", laid_polyglot_family_words)], narrowed := true }
def FamilyHeadsUptoSaid : Prop := familyHeadsUptoRow.holds Tryd.pinned (OpenSpec.upto familyHeadsSpec)

end Rows
end Go.Proofs.YtjkaggkamcfahaaDoor
