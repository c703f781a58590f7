/-
  NARROWER THAN 'FOR EVERY INPUT', by the rows' own cells (each row's printed sentence says how): EscapeTells: laid · EscapeBack: laid · EscapeStays: laid · EscapeFar: laid.
  DERIVED. THE GIVEN ROWS OF THIS SEAT. 4 by the template 'for every input the law returns true; each argument reads behind the call as it read before'; 0 by the template 'total and deterministic' (their statements: YtaiolkeiabhcpaaDoorTotals.lean).
  GIVEN WITH THE SEED: the statements are not yours to turn. If you find one false, say at which input.
  Laid BY PROGRAM, IN A SANDBOX (cutbox-rows.mjs): the forced cells as the released guide's own fill.sh prints them over the translation b1d4e9703f3517ca… (all of the seat's roots in one cut). By AI agents, Wed Nov 11 2026. No macro, syntax, notation, axiom, sorry.
-/
import Derived.Test.YtaiolkeiabhcpaaDoorChecked
import GoSem.Claim
import GoSem.ClaimJoined
import GoSem.ClaimMapViews
import Derived.JoinedTies
import Derived.KernelRfl
namespace Go.Proofs.YtaiolkeiabhcpaaDoor
/- THE CELL 'sum', in the pinned program and in every row, IS THE sha256 OF THE DUMP (.gsa) THAT YtaiolkeiabhcpaaDoorProg.lean LOADS. Nothing in Lean hashes anything: it is a label: what it is worth is what the hold of that sum in a sandbox is worth. -/
noncomputable def Tryd.pinned : Pinned := { name := "ytaiolkeiabhcpaadoor", sum := "b1d4e9703f3517ca79e57092bfc59259d03ca9c74c81ce0753efae829accc713", checked := Tryd.checked }
namespace Rows
def none {H : Type} : Left H := { results := [], args := [] }

/- WHAT THE LISTED PACKAGE-LEVEL VARIABLES READ AS WHEN THE CALL BEGINS. Each datum BY PROGRAM (the guide's laid-datum.mjs) off the statement by which the dump's own 'gosem.cut.vars' lays the variable. In a bare row this is a premise. The card (YtaiolkeiabhcpaaDoorCards.lean) ties it to the program's text. -/
def laid_polyglot_charset_spans {H : Type} : DataW H := .agg [.agg [.lit (.int .u8 32), .lit (.int .u8 34), .lit (.int .u8 128)], .agg [.lit (.int .u8 35), .lit (.int .u8 35), .lit (.int .u8 64)], .agg [.lit (.int .u8 36), .lit (.int .u8 44), .lit (.int .u8 128)], .agg [.lit (.int .u8 45), .lit (.int .u8 45), .lit (.int .u8 8)], .agg [.lit (.int .u8 46), .lit (.int .u8 46), .lit (.int .u8 32)], .agg [.lit (.int .u8 47), .lit (.int .u8 47), .lit (.int .u8 128)], .agg [.lit (.int .u8 48), .lit (.int .u8 57), .lit (.int .u8 2)], .agg [.lit (.int .u8 58), .lit (.int .u8 58), .lit (.int .u8 16)], .agg [.lit (.int .u8 59), .lit (.int .u8 64), .lit (.int .u8 128)], .agg [.lit (.int .u8 65), .lit (.int .u8 90), .lit (.int .u8 1)], .agg [.lit (.int .u8 91), .lit (.int .u8 91), .lit (.int .u8 128)], .agg [.lit (.int .u8 93), .lit (.int .u8 94), .lit (.int .u8 128)], .agg [.lit (.int .u8 95), .lit (.int .u8 95), .lit (.int .u8 4)], .agg [.lit (.int .u8 96), .lit (.int .u8 96), .lit (.int .u8 128)], .agg [.lit (.int .u8 97), .lit (.int .u8 122), .lit (.int .u8 1)], .agg [.lit (.int .u8 123), .lit (.int .u8 126), .lit (.int .u8 128)]]
def laid_polyglot_charset_sets {H : Type} : DataW H := .agg [.agg [.lit (.int .u8 0), .lit (.int .u8 0)], .agg [.lit (.int .u8 23), .lit (.int .u8 7)], .agg [.lit (.int .u8 255), .lit (.int .u8 255)], .agg [.lit (.int .u8 63), .lit (.int .u8 31)], .agg [.lit (.int .u8 47), .lit (.int .u8 47)]]

/-- 'polyglotlaw13.EscapeTells': WHATEVER THE INPUT: true; the input reads as it did. -/
def escapeTellsSpec : ChangeSpec := { name := "escapeTells", fn := fun _ => fun
  | [d1, d2, d3, d4] => { results := [.lit (.bool true)], args := [d1, d2, d3, d4] }
  | _ => none }
def escapeTellsRow : OpenClaim := { program := "ytaiolkeiabhcpaadoor", sum := "b1d4e9703f3517ca79e57092bfc59259d03ca9c74c81ce0753efae829accc713", func := "polyglot/polyglotlaw13.EscapeTells", spec := "escapeTells", inPlace := ["internal/bytealg.IndexByteString", "internal/bytealg.IndexString", "internal/abi.NoEscape"], named := ["internal/bytealg.MaxLen", "polyglot/charset.spans", "polyglot/charset.sets"], apart := false, laid := [("polyglot/charset.spans", laid_polyglot_charset_spans), ("polyglot/charset.sets", laid_polyglot_charset_sets)] }
def EscapeTellsSaid : Prop := escapeTellsRow.holds Tryd.pinned (OpenSpec.ofChange escapeTellsSpec)

/-- ITS FALSE NEIGHBOUR: 'it returns false'. Refute it at one input. -/
def escapeTellsWrong : ChangeSpec := { name := "escapeTells", fn := fun _ => fun
  | [d1, d2, d3, d4] => { results := [.lit (.bool false)], args := [d1, d2, d3, d4] }
  | _ => none }
def EscapeTellsWrongFalsely : Prop := escapeTellsRow.holds Tryd.pinned (OpenSpec.ofChange escapeTellsWrong)

/-- 'polyglotlaw13.EscapeBack': WHATEVER THE INPUT: true; the input reads as it did. -/
def escapeBackSpec : ChangeSpec := { name := "escapeBack", fn := fun _ => fun
  | [d1, d2, d3, d4] => { results := [.lit (.bool true)], args := [d1, d2, d3, d4] }
  | _ => none }
def escapeBackRow : OpenClaim := { program := "ytaiolkeiabhcpaadoor", sum := "b1d4e9703f3517ca79e57092bfc59259d03ca9c74c81ce0753efae829accc713", func := "polyglot/polyglotlaw13.EscapeBack", spec := "escapeBack", inPlace := ["internal/bytealg.IndexByteString", "internal/bytealg.IndexString", "internal/abi.NoEscape"], named := ["internal/bytealg.MaxLen", "polyglot/charset.spans", "polyglot/charset.sets"], apart := false, laid := [("polyglot/charset.spans", laid_polyglot_charset_spans), ("polyglot/charset.sets", laid_polyglot_charset_sets)] }
def EscapeBackSaid : Prop := escapeBackRow.holds Tryd.pinned (OpenSpec.ofChange escapeBackSpec)

/-- ITS FALSE NEIGHBOUR: 'it returns false'. Refute it at one input. -/
def escapeBackWrong : ChangeSpec := { name := "escapeBack", fn := fun _ => fun
  | [d1, d2, d3, d4] => { results := [.lit (.bool false)], args := [d1, d2, d3, d4] }
  | _ => none }
def EscapeBackWrongFalsely : Prop := escapeBackRow.holds Tryd.pinned (OpenSpec.ofChange escapeBackWrong)

/-- 'polyglotlaw13.EscapeStays': WHATEVER THE INPUT: true; the input reads as it did. -/
def escapeStaysSpec : ChangeSpec := { name := "escapeStays", fn := fun _ => fun
  | [d1, d2, d3] => { results := [.lit (.bool true)], args := [d1, d2, d3] }
  | _ => none }
def escapeStaysRow : OpenClaim := { program := "ytaiolkeiabhcpaadoor", sum := "b1d4e9703f3517ca79e57092bfc59259d03ca9c74c81ce0753efae829accc713", func := "polyglot/polyglotlaw13.EscapeStays", spec := "escapeStays", inPlace := ["internal/bytealg.IndexByteString", "internal/bytealg.IndexString", "internal/abi.NoEscape"], named := ["internal/bytealg.MaxLen", "polyglot/charset.spans", "polyglot/charset.sets"], apart := false, laid := [("polyglot/charset.spans", laid_polyglot_charset_spans), ("polyglot/charset.sets", laid_polyglot_charset_sets)] }
def EscapeStaysSaid : Prop := escapeStaysRow.holds Tryd.pinned (OpenSpec.ofChange escapeStaysSpec)

/-- ITS FALSE NEIGHBOUR: 'it returns false'. Refute it at one input. -/
def escapeStaysWrong : ChangeSpec := { name := "escapeStays", fn := fun _ => fun
  | [d1, d2, d3] => { results := [.lit (.bool false)], args := [d1, d2, d3] }
  | _ => none }
def EscapeStaysWrongFalsely : Prop := escapeStaysRow.holds Tryd.pinned (OpenSpec.ofChange escapeStaysWrong)

/-- 'polyglotlaw13.EscapeFar': WHATEVER THE INPUT: true; the input reads as it did. -/
def escapeFarSpec : ChangeSpec := { name := "escapeFar", fn := fun _ => fun
  | [d1, d2, d3] => { results := [.lit (.bool true)], args := [d1, d2, d3] }
  | _ => none }
def escapeFarRow : OpenClaim := { program := "ytaiolkeiabhcpaadoor", sum := "b1d4e9703f3517ca79e57092bfc59259d03ca9c74c81ce0753efae829accc713", func := "polyglot/polyglotlaw13.EscapeFar", spec := "escapeFar", inPlace := ["internal/bytealg.IndexByteString", "internal/bytealg.IndexString", "internal/abi.NoEscape"], named := ["internal/bytealg.MaxLen", "polyglot/charset.spans", "polyglot/charset.sets"], apart := false, laid := [("polyglot/charset.spans", laid_polyglot_charset_spans), ("polyglot/charset.sets", laid_polyglot_charset_sets)] }
def EscapeFarSaid : Prop := escapeFarRow.holds Tryd.pinned (OpenSpec.ofChange escapeFarSpec)

/-- ITS FALSE NEIGHBOUR: 'it returns false'. Refute it at one input. -/
def escapeFarWrong : ChangeSpec := { name := "escapeFar", fn := fun _ => fun
  | [d1, d2, d3] => { results := [.lit (.bool false)], args := [d1, d2, d3] }
  | _ => none }
def EscapeFarWrongFalsely : Prop := escapeFarRow.holds Tryd.pinned (OpenSpec.ofChange escapeFarWrong)

/- THE SECOND FORM. 'bulk': how many values and letters a reading holds, each counted each time it is reached (what is shared counts as often as it is met; a slice's spare places count too). A statement '..UptoSaid' is the law's where the arguments, and the package variables that the reading takes, are together of bulk at most 1048576: NARROWER than '..Said'. Prove '..Said' where nothing that the law and all that it calls make is longer than what came in: it says more and counts as full. Else prove '..UptoSaid'. A law counts once. -/
mutual
def uptoBulk {H : Type} : DataW H → Nat
  | .lit (.string bytes) => bytes.length + 1
  | .lit _ => 1
  | .nil => 1
  | .ptr d => uptoBulk d + 1
  | .slice elems spare => uptoBulkAll elems + uptoBulkAll spare + 1
  | .agg parts => uptoBulkAll parts + 1
  | .iface _ d => uptoBulk d + 1
  | .map entries => uptoBulkEntries entries + 1
  | .held _ => 1
def uptoBulkAll {H : Type} : List (DataW H) → Nat
  | [] => 0
  | d :: r => uptoBulk d + uptoBulkAll r
def uptoBulkEntries {H : Type} : List (Lit × DataW H) → Nat
  | [] => 0
  | x :: r => uptoBulkEntry x + uptoBulkEntries r
def uptoBulkEntry {H : Type} : Lit × DataW H → Nat
  | (.string bytes, d) => bytes.length + uptoBulk d + 1
  | (_, d) => uptoBulk d + 1
 end
def uptoSmall : (H : Type) → List (DataW H) → Bool := fun _ ds => decide (uptoBulkAll ds ≤ 1048576)
def OpenSpec.upto (s : _root_.Go.ChangeSpec) : _root_.Go.OpenSpec := { _root_.Go.OpenSpec.ofChange s with cond := some uptoSmall }

/-- 'polyglotlaw13.EscapeTells', WHERE WHAT IT READS IS OF BULK AT MOST 1048576: true; the input reads as it did. -/
def escapeTellsUptoRow : OpenClaim := { program := "ytaiolkeiabhcpaadoor", sum := "b1d4e9703f3517ca79e57092bfc59259d03ca9c74c81ce0753efae829accc713", func := "polyglot/polyglotlaw13.EscapeTells", spec := "escapeTells", inPlace := ["internal/bytealg.IndexByteString", "internal/bytealg.IndexString", "internal/abi.NoEscape"], named := ["internal/bytealg.MaxLen", "polyglot/charset.spans", "polyglot/charset.sets"], apart := false, laid := [("polyglot/charset.spans", laid_polyglot_charset_spans), ("polyglot/charset.sets", laid_polyglot_charset_sets)], narrowed := true }
def EscapeTellsUptoSaid : Prop := escapeTellsUptoRow.holds Tryd.pinned (OpenSpec.upto escapeTellsSpec)

/-- 'polyglotlaw13.EscapeBack', WHERE WHAT IT READS IS OF BULK AT MOST 1048576: true; the input reads as it did. -/
def escapeBackUptoRow : OpenClaim := { program := "ytaiolkeiabhcpaadoor", sum := "b1d4e9703f3517ca79e57092bfc59259d03ca9c74c81ce0753efae829accc713", func := "polyglot/polyglotlaw13.EscapeBack", spec := "escapeBack", inPlace := ["internal/bytealg.IndexByteString", "internal/bytealg.IndexString", "internal/abi.NoEscape"], named := ["internal/bytealg.MaxLen", "polyglot/charset.spans", "polyglot/charset.sets"], apart := false, laid := [("polyglot/charset.spans", laid_polyglot_charset_spans), ("polyglot/charset.sets", laid_polyglot_charset_sets)], narrowed := true }
def EscapeBackUptoSaid : Prop := escapeBackUptoRow.holds Tryd.pinned (OpenSpec.upto escapeBackSpec)

/-- 'polyglotlaw13.EscapeStays', WHERE WHAT IT READS IS OF BULK AT MOST 1048576: true; the input reads as it did. -/
def escapeStaysUptoRow : OpenClaim := { program := "ytaiolkeiabhcpaadoor", sum := "b1d4e9703f3517ca79e57092bfc59259d03ca9c74c81ce0753efae829accc713", func := "polyglot/polyglotlaw13.EscapeStays", spec := "escapeStays", inPlace := ["internal/bytealg.IndexByteString", "internal/bytealg.IndexString", "internal/abi.NoEscape"], named := ["internal/bytealg.MaxLen", "polyglot/charset.spans", "polyglot/charset.sets"], apart := false, laid := [("polyglot/charset.spans", laid_polyglot_charset_spans), ("polyglot/charset.sets", laid_polyglot_charset_sets)], narrowed := true }
def EscapeStaysUptoSaid : Prop := escapeStaysUptoRow.holds Tryd.pinned (OpenSpec.upto escapeStaysSpec)

/-- 'polyglotlaw13.EscapeFar', WHERE WHAT IT READS IS OF BULK AT MOST 1048576: true; the input reads as it did. -/
def escapeFarUptoRow : OpenClaim := { program := "ytaiolkeiabhcpaadoor", sum := "b1d4e9703f3517ca79e57092bfc59259d03ca9c74c81ce0753efae829accc713", func := "polyglot/polyglotlaw13.EscapeFar", spec := "escapeFar", inPlace := ["internal/bytealg.IndexByteString", "internal/bytealg.IndexString", "internal/abi.NoEscape"], named := ["internal/bytealg.MaxLen", "polyglot/charset.spans", "polyglot/charset.sets"], apart := false, laid := [("polyglot/charset.spans", laid_polyglot_charset_spans), ("polyglot/charset.sets", laid_polyglot_charset_sets)], narrowed := true }
def EscapeFarUptoSaid : Prop := escapeFarUptoRow.holds Tryd.pinned (OpenSpec.upto escapeFarSpec)

end Rows
end Go.Proofs.YtaiolkeiabhcpaaDoor
