/-
  NARROWER THAN 'FOR EVERY INPUT', by the rows' own cells (each row's printed sentence says how): LossyTells: laid · LossyPair: laid · LossyLegal: laid · LossyOrder: laid.
  DERIVED. THE GIVEN ROWS OF THIS SEAT. 4 by the template 'for every input the law returns true; each argument reads behind the call as it read before'; 0 by the template 'total and deterministic' (their statements: YtgdhfmcipaoapaaDoorTotals.lean).
  GIVEN WITH THE SEED: the statements are not yours to turn. If you find one false, say at which input.
  Laid BY PROGRAM, IN A SANDBOX (cutbox-rows.mjs): the forced cells as the released guide's own fill.sh prints them over the translation 606669ea3e8556ca… (all of the seat's roots in one cut). By AI agents, Wed Nov 11 2026. No macro, syntax, notation, axiom, sorry.
-/
import Derived.Test.YtgdhfmcipaoapaaDoorChecked
import GoSem.Claim
import GoSem.ClaimJoined
import GoSem.ClaimMapViews
import Derived.JoinedTies
import Derived.KernelRfl
namespace Go.Proofs.YtgdhfmcipaoapaaDoor
/- THE CELL 'sum', in the pinned program and in every row, IS THE sha256 OF THE DUMP (.gsa) THAT YtgdhfmcipaoapaaDoorProg.lean LOADS. Nothing in Lean hashes anything: it is a label: what it is worth is what the hold of that sum in a sandbox is worth. -/
noncomputable def Tryd.pinned : Pinned := { name := "ytgdhfmcipaoapaadoor", sum := "606669ea3e8556ca1fa8387b0706fbd6d37aa5835b5f535d0a321d7e8d8b4b96", checked := Tryd.checked }
namespace Rows
def none {H : Type} : Left H := { results := [], args := [] }

/- WHAT THE LISTED PACKAGE-LEVEL VARIABLES READ AS WHEN THE CALL BEGINS. Each datum BY PROGRAM (the guide's laid-datum.mjs) off the statement by which the dump's own 'gosem.cut.vars' lays the variable. In a bare row this is a premise. The card (YtgdhfmcipaoapaaDoorCards.lean) ties it to the program's text. -/
def laid_polyglot_charset_spans {H : Type} : DataW H := .agg [.agg [.lit (.int .u8 32), .lit (.int .u8 34), .lit (.int .u8 128)], .agg [.lit (.int .u8 35), .lit (.int .u8 35), .lit (.int .u8 64)], .agg [.lit (.int .u8 36), .lit (.int .u8 44), .lit (.int .u8 128)], .agg [.lit (.int .u8 45), .lit (.int .u8 45), .lit (.int .u8 8)], .agg [.lit (.int .u8 46), .lit (.int .u8 46), .lit (.int .u8 32)], .agg [.lit (.int .u8 47), .lit (.int .u8 47), .lit (.int .u8 128)], .agg [.lit (.int .u8 48), .lit (.int .u8 57), .lit (.int .u8 2)], .agg [.lit (.int .u8 58), .lit (.int .u8 58), .lit (.int .u8 16)], .agg [.lit (.int .u8 59), .lit (.int .u8 64), .lit (.int .u8 128)], .agg [.lit (.int .u8 65), .lit (.int .u8 90), .lit (.int .u8 1)], .agg [.lit (.int .u8 91), .lit (.int .u8 91), .lit (.int .u8 128)], .agg [.lit (.int .u8 93), .lit (.int .u8 94), .lit (.int .u8 128)], .agg [.lit (.int .u8 95), .lit (.int .u8 95), .lit (.int .u8 4)], .agg [.lit (.int .u8 96), .lit (.int .u8 96), .lit (.int .u8 128)], .agg [.lit (.int .u8 97), .lit (.int .u8 122), .lit (.int .u8 1)], .agg [.lit (.int .u8 123), .lit (.int .u8 126), .lit (.int .u8 128)]]
def laid_polyglot_charset_sets {H : Type} : DataW H := .agg [.agg [.lit (.int .u8 0), .lit (.int .u8 0)], .agg [.lit (.int .u8 23), .lit (.int .u8 7)], .agg [.lit (.int .u8 255), .lit (.int .u8 255)], .agg [.lit (.int .u8 63), .lit (.int .u8 31)], .agg [.lit (.int .u8 47), .lit (.int .u8 47)]]

/-- 'polyglotlaw14.LossyTells': WHATEVER THE INPUT: true; the input reads as it did. -/
def lossyTellsSpec : ChangeSpec := { name := "lossyTells", fn := fun _ => fun
  | [d1, d2, d3, d4] => { results := [.lit (.bool true)], args := [d1, d2, d3, d4] }
  | _ => none }
def lossyTellsRow : OpenClaim := { program := "ytgdhfmcipaoapaadoor", sum := "606669ea3e8556ca1fa8387b0706fbd6d37aa5835b5f535d0a321d7e8d8b4b96", func := "polyglot/polyglotlaw14.LossyTells", spec := "lossyTells", unfollowed := true, recurses := true, named := ["polyglot/charset.spans", "polyglot/charset.sets"], apart := false, laid := [("polyglot/charset.spans", laid_polyglot_charset_spans), ("polyglot/charset.sets", laid_polyglot_charset_sets)] }
def LossyTellsSaid : Prop := lossyTellsRow.holds Tryd.pinned (OpenSpec.ofChange lossyTellsSpec)

/-- ITS FALSE NEIGHBOUR: 'it returns false'. Refute it at one input. -/
def lossyTellsWrong : ChangeSpec := { name := "lossyTells", fn := fun _ => fun
  | [d1, d2, d3, d4] => { results := [.lit (.bool false)], args := [d1, d2, d3, d4] }
  | _ => none }
def LossyTellsWrongFalsely : Prop := lossyTellsRow.holds Tryd.pinned (OpenSpec.ofChange lossyTellsWrong)

/-- 'polyglotlaw14.LossyPair': WHATEVER THE INPUT: true; the input reads as it did. -/
def lossyPairSpec : ChangeSpec := { name := "lossyPair", fn := fun _ => fun
  | [d1, d2, d3] => { results := [.lit (.bool true)], args := [d1, d2, d3] }
  | _ => none }
def lossyPairRow : OpenClaim := { program := "ytgdhfmcipaoapaadoor", sum := "606669ea3e8556ca1fa8387b0706fbd6d37aa5835b5f535d0a321d7e8d8b4b96", func := "polyglot/polyglotlaw14.LossyPair", spec := "lossyPair", unfollowed := true, recurses := true, named := ["polyglot/charset.spans", "polyglot/charset.sets"], apart := false, laid := [("polyglot/charset.spans", laid_polyglot_charset_spans), ("polyglot/charset.sets", laid_polyglot_charset_sets)] }
def LossyPairSaid : Prop := lossyPairRow.holds Tryd.pinned (OpenSpec.ofChange lossyPairSpec)

/-- ITS FALSE NEIGHBOUR: 'it returns false'. Refute it at one input. -/
def lossyPairWrong : ChangeSpec := { name := "lossyPair", fn := fun _ => fun
  | [d1, d2, d3] => { results := [.lit (.bool false)], args := [d1, d2, d3] }
  | _ => none }
def LossyPairWrongFalsely : Prop := lossyPairRow.holds Tryd.pinned (OpenSpec.ofChange lossyPairWrong)

/-- 'polyglotlaw14.LossyLegal': WHATEVER THE INPUT: true; the input reads as it did. -/
def lossyLegalSpec : ChangeSpec := { name := "lossyLegal", fn := fun _ => fun
  | [d1, d2, d3] => { results := [.lit (.bool true)], args := [d1, d2, d3] }
  | _ => none }
def lossyLegalRow : OpenClaim := { program := "ytgdhfmcipaoapaadoor", sum := "606669ea3e8556ca1fa8387b0706fbd6d37aa5835b5f535d0a321d7e8d8b4b96", func := "polyglot/polyglotlaw14.LossyLegal", spec := "lossyLegal", unfollowed := true, recurses := true, named := ["polyglot/charset.spans", "polyglot/charset.sets"], apart := false, laid := [("polyglot/charset.spans", laid_polyglot_charset_spans), ("polyglot/charset.sets", laid_polyglot_charset_sets)] }
def LossyLegalSaid : Prop := lossyLegalRow.holds Tryd.pinned (OpenSpec.ofChange lossyLegalSpec)

/-- ITS FALSE NEIGHBOUR: 'it returns false'. Refute it at one input. -/
def lossyLegalWrong : ChangeSpec := { name := "lossyLegal", fn := fun _ => fun
  | [d1, d2, d3] => { results := [.lit (.bool false)], args := [d1, d2, d3] }
  | _ => none }
def LossyLegalWrongFalsely : Prop := lossyLegalRow.holds Tryd.pinned (OpenSpec.ofChange lossyLegalWrong)

/-- 'polyglotlaw14.LossyOrder': WHATEVER THE INPUT: true; the input reads as it did. -/
def lossyOrderSpec : ChangeSpec := { name := "lossyOrder", fn := fun _ => fun
  | [d1, d2, d3] => { results := [.lit (.bool true)], args := [d1, d2, d3] }
  | _ => none }
def lossyOrderRow : OpenClaim := { program := "ytgdhfmcipaoapaadoor", sum := "606669ea3e8556ca1fa8387b0706fbd6d37aa5835b5f535d0a321d7e8d8b4b96", func := "polyglot/polyglotlaw14.LossyOrder", spec := "lossyOrder", unfollowed := true, recurses := true, named := ["polyglot/charset.spans", "polyglot/charset.sets"], apart := false, laid := [("polyglot/charset.spans", laid_polyglot_charset_spans), ("polyglot/charset.sets", laid_polyglot_charset_sets)] }
def LossyOrderSaid : Prop := lossyOrderRow.holds Tryd.pinned (OpenSpec.ofChange lossyOrderSpec)

/-- ITS FALSE NEIGHBOUR: 'it returns false'. Refute it at one input. -/
def lossyOrderWrong : ChangeSpec := { name := "lossyOrder", fn := fun _ => fun
  | [d1, d2, d3] => { results := [.lit (.bool false)], args := [d1, d2, d3] }
  | _ => none }
def LossyOrderWrongFalsely : Prop := lossyOrderRow.holds Tryd.pinned (OpenSpec.ofChange lossyOrderWrong)

/- THE SECOND FORM. 'bulk': how many values and letters a reading holds, each counted each time it is reached (what is shared counts as often as it is met; a slice's spare places count too). A statement '..UptoSaid' is the law's where the arguments, and the package variables that the reading takes, are together of bulk at most 1048576: NARROWER than '..Said'. Prove '..Said' where nothing that the law and all that it calls make is longer than what came in: it says more and counts as full. Else prove '..UptoSaid'. A law counts once. -/
mutual
def uptoBulk {H : Type} : DataW H → Nat
  | .lit (.string bytes) => bytes.length + 1
  | .lit _ => 1
  | .nil => 1
  | .ptr d => uptoBulk d + 1
  | .slice elems spare => uptoBulkAll elems + uptoBulkAll spare + 1
  | .agg parts => uptoBulkAll parts + 1
  | .iface _ d => uptoBulk d + 1
  | .map entries => uptoBulkEntries entries + 1
  | .held _ => 1
def uptoBulkAll {H : Type} : List (DataW H) → Nat
  | [] => 0
  | d :: r => uptoBulk d + uptoBulkAll r
def uptoBulkEntries {H : Type} : List (Lit × DataW H) → Nat
  | [] => 0
  | x :: r => uptoBulkEntry x + uptoBulkEntries r
def uptoBulkEntry {H : Type} : Lit × DataW H → Nat
  | (.string bytes, d) => bytes.length + uptoBulk d + 1
  | (_, d) => uptoBulk d + 1
 end
def uptoSmall : (H : Type) → List (DataW H) → Bool := fun _ ds => decide (uptoBulkAll ds ≤ 1048576)
def OpenSpec.upto (s : _root_.Go.ChangeSpec) : _root_.Go.OpenSpec := { _root_.Go.OpenSpec.ofChange s with cond := some uptoSmall }

/-- 'polyglotlaw14.LossyTells', WHERE WHAT IT READS IS OF BULK AT MOST 1048576: true; the input reads as it did. -/
def lossyTellsUptoRow : OpenClaim := { program := "ytgdhfmcipaoapaadoor", sum := "606669ea3e8556ca1fa8387b0706fbd6d37aa5835b5f535d0a321d7e8d8b4b96", func := "polyglot/polyglotlaw14.LossyTells", spec := "lossyTells", unfollowed := true, recurses := true, named := ["polyglot/charset.spans", "polyglot/charset.sets"], apart := false, laid := [("polyglot/charset.spans", laid_polyglot_charset_spans), ("polyglot/charset.sets", laid_polyglot_charset_sets)], narrowed := true }
def LossyTellsUptoSaid : Prop := lossyTellsUptoRow.holds Tryd.pinned (OpenSpec.upto lossyTellsSpec)

/-- 'polyglotlaw14.LossyPair', WHERE WHAT IT READS IS OF BULK AT MOST 1048576: true; the input reads as it did. -/
def lossyPairUptoRow : OpenClaim := { program := "ytgdhfmcipaoapaadoor", sum := "606669ea3e8556ca1fa8387b0706fbd6d37aa5835b5f535d0a321d7e8d8b4b96", func := "polyglot/polyglotlaw14.LossyPair", spec := "lossyPair", unfollowed := true, recurses := true, named := ["polyglot/charset.spans", "polyglot/charset.sets"], apart := false, laid := [("polyglot/charset.spans", laid_polyglot_charset_spans), ("polyglot/charset.sets", laid_polyglot_charset_sets)], narrowed := true }
def LossyPairUptoSaid : Prop := lossyPairUptoRow.holds Tryd.pinned (OpenSpec.upto lossyPairSpec)

/-- 'polyglotlaw14.LossyLegal', WHERE WHAT IT READS IS OF BULK AT MOST 1048576: true; the input reads as it did. -/
def lossyLegalUptoRow : OpenClaim := { program := "ytgdhfmcipaoapaadoor", sum := "606669ea3e8556ca1fa8387b0706fbd6d37aa5835b5f535d0a321d7e8d8b4b96", func := "polyglot/polyglotlaw14.LossyLegal", spec := "lossyLegal", unfollowed := true, recurses := true, named := ["polyglot/charset.spans", "polyglot/charset.sets"], apart := false, laid := [("polyglot/charset.spans", laid_polyglot_charset_spans), ("polyglot/charset.sets", laid_polyglot_charset_sets)], narrowed := true }
def LossyLegalUptoSaid : Prop := lossyLegalUptoRow.holds Tryd.pinned (OpenSpec.upto lossyLegalSpec)

/-- 'polyglotlaw14.LossyOrder', WHERE WHAT IT READS IS OF BULK AT MOST 1048576: true; the input reads as it did. -/
def lossyOrderUptoRow : OpenClaim := { program := "ytgdhfmcipaoapaadoor", sum := "606669ea3e8556ca1fa8387b0706fbd6d37aa5835b5f535d0a321d7e8d8b4b96", func := "polyglot/polyglotlaw14.LossyOrder", spec := "lossyOrder", unfollowed := true, recurses := true, named := ["polyglot/charset.spans", "polyglot/charset.sets"], apart := false, laid := [("polyglot/charset.spans", laid_polyglot_charset_spans), ("polyglot/charset.sets", laid_polyglot_charset_sets)], narrowed := true }
def LossyOrderUptoSaid : Prop := lossyOrderUptoRow.holds Tryd.pinned (OpenSpec.upto lossyOrderSpec)

end Rows
end Go.Proofs.YtgdhfmcipaoapaaDoor
