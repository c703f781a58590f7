/-
  No cell of these rows narrows 'for every input' (looked for: loops, veiled, ifaces, maps, wideKeys, modest, calm, conditions, laid).
  DERIVED. THE GIVEN ROWS OF THIS SEAT. 4 by the template 'for every input the law returns true; each argument reads behind the call as it read before'; 0 by the template 'total and deterministic' (their statements: YtpejphfggfppdaaTotals.lean).
  GIVEN WITH THE SEED: the statements are not yours to turn. If you find one false, say at which input.
  Laid BY PROGRAM, IN A SANDBOX (cutbox-rows.mjs): the forced cells as the released guide's own fill.sh prints them over the translation fe033c9b0d899851… (all of the seat's roots in one cut). By AI agents, Wed Nov 11 2026. No macro, syntax, notation, axiom, sorry.
-/
import Derived.Test.YtpejphfggfppdaaChecked
import GoSem.Claim
import GoSem.ClaimJoined
import GoSem.ClaimMapViews
import Derived.JoinedTies
import Derived.KernelRfl
namespace Go.Proofs.Ytpejphfggfppdaa
/- THE CELL 'sum', in the pinned program and in every row, IS THE sha256 OF THE DUMP (.gsa) THAT YtpejphfggfppdaaProg.lean LOADS. Nothing in Lean hashes anything: it is a label: what it is worth is what the hold of that sum in a sandbox is worth. -/
noncomputable def Try.pinned : Pinned := { name := "ytpejphfggfppdaa", sum := "fe033c9b0d899851f42dbe745de4dc81bea73069526d2fcac28ca12c0f6c3be8", checked := Try.checked }
namespace Rows
def none {H : Type} : Left H := { results := [], args := [] }

/-- 'polyglotlaw2.SpotTells': WHATEVER THE INPUT: true; the input reads as it did. -/
def spotTellsSpec : ChangeSpec := { name := "spotTells", fn := fun _ => fun
  | [d1, d2, d3, d4] => { results := [.lit (.bool true)], args := [d1, d2, d3, d4] }
  | _ => none }
def spotTellsRow : OpenClaim := { program := "ytpejphfggfppdaa", sum := "fe033c9b0d899851f42dbe745de4dc81bea73069526d2fcac28ca12c0f6c3be8", func := "polyglot/polyglotlaw2.SpotTells", spec := "spotTells", inPlace := ["internal/bytealg.CountString", "internal/bytealg.IndexByteString", "internal/bytealg.IndexString"], named := ["internal/bytealg.MaxLen"], apart := false }
def SpotTellsSaid : Prop := spotTellsRow.holds Try.pinned (OpenSpec.ofChange spotTellsSpec)

/-- ITS FALSE NEIGHBOUR: 'it returns false'. Refute it at one input. -/
def spotTellsWrong : ChangeSpec := { name := "spotTells", fn := fun _ => fun
  | [d1, d2, d3, d4] => { results := [.lit (.bool false)], args := [d1, d2, d3, d4] }
  | _ => none }
def SpotTellsWrongFalsely : Prop := spotTellsRow.holds Try.pinned (OpenSpec.ofChange spotTellsWrong)

/-- 'polyglotlaw2.SpotLines': WHATEVER THE INPUT: true; the input reads as it did. -/
def spotLinesSpec : ChangeSpec := { name := "spotLines", fn := fun _ => fun
  | [d1, d2] => { results := [.lit (.bool true)], args := [d1, d2] }
  | _ => none }
def spotLinesRow : OpenClaim := { program := "ytpejphfggfppdaa", sum := "fe033c9b0d899851f42dbe745de4dc81bea73069526d2fcac28ca12c0f6c3be8", func := "polyglot/polyglotlaw2.SpotLines", spec := "spotLines", inPlace := ["internal/bytealg.CountString", "internal/bytealg.IndexByteString", "internal/bytealg.IndexString"], named := ["internal/bytealg.MaxLen"], apart := false }
def SpotLinesSaid : Prop := spotLinesRow.holds Try.pinned (OpenSpec.ofChange spotLinesSpec)

/-- ITS FALSE NEIGHBOUR: 'it returns false'. Refute it at one input. -/
def spotLinesWrong : ChangeSpec := { name := "spotLines", fn := fun _ => fun
  | [d1, d2] => { results := [.lit (.bool false)], args := [d1, d2] }
  | _ => none }
def SpotLinesWrongFalsely : Prop := spotLinesRow.holds Try.pinned (OpenSpec.ofChange spotLinesWrong)

/-- 'polyglotlaw2.SpotAhead': WHATEVER THE INPUT: true; the input reads as it did. -/
def spotAheadSpec : ChangeSpec := { name := "spotAhead", fn := fun _ => fun
  | [d1, d2, d3] => { results := [.lit (.bool true)], args := [d1, d2, d3] }
  | _ => none }
def spotAheadRow : OpenClaim := { program := "ytpejphfggfppdaa", sum := "fe033c9b0d899851f42dbe745de4dc81bea73069526d2fcac28ca12c0f6c3be8", func := "polyglot/polyglotlaw2.SpotAhead", spec := "spotAhead", inPlace := ["internal/bytealg.CountString", "internal/bytealg.IndexByteString", "internal/bytealg.IndexString"], named := ["internal/bytealg.MaxLen"], apart := false }
def SpotAheadSaid : Prop := spotAheadRow.holds Try.pinned (OpenSpec.ofChange spotAheadSpec)

/-- ITS FALSE NEIGHBOUR: 'it returns false'. Refute it at one input. -/
def spotAheadWrong : ChangeSpec := { name := "spotAhead", fn := fun _ => fun
  | [d1, d2, d3] => { results := [.lit (.bool false)], args := [d1, d2, d3] }
  | _ => none }
def SpotAheadWrongFalsely : Prop := spotAheadRow.holds Try.pinned (OpenSpec.ofChange spotAheadWrong)

/-- 'polyglotlaw2.SpotFirst': WHATEVER THE INPUT: true; the input reads as it did. -/
def spotFirstSpec : ChangeSpec := { name := "spotFirst", fn := fun _ => fun
  | [d1, d2, d3, d4] => { results := [.lit (.bool true)], args := [d1, d2, d3, d4] }
  | _ => none }
def spotFirstRow : OpenClaim := { program := "ytpejphfggfppdaa", sum := "fe033c9b0d899851f42dbe745de4dc81bea73069526d2fcac28ca12c0f6c3be8", func := "polyglot/polyglotlaw2.SpotFirst", spec := "spotFirst", inPlace := ["internal/bytealg.CountString", "internal/bytealg.IndexByteString", "internal/bytealg.IndexString"], named := ["internal/bytealg.MaxLen"], apart := false }
def SpotFirstSaid : Prop := spotFirstRow.holds Try.pinned (OpenSpec.ofChange spotFirstSpec)

/-- ITS FALSE NEIGHBOUR: 'it returns false'. Refute it at one input. -/
def spotFirstWrong : ChangeSpec := { name := "spotFirst", fn := fun _ => fun
  | [d1, d2, d3, d4] => { results := [.lit (.bool false)], args := [d1, d2, d3, d4] }
  | _ => none }
def SpotFirstWrongFalsely : Prop := spotFirstRow.holds Try.pinned (OpenSpec.ofChange spotFirstWrong)

/- THE SECOND FORM. 'bulk': how many values and letters a reading holds, each counted each time it is reached (what is shared counts as often as it is met; a slice's spare places count too). A statement '..UptoSaid' is the law's where the arguments, and the package variables that the reading takes, are together of bulk at most 1048576: NARROWER than '..Said'. Prove '..Said' where nothing that the law and all that it calls make is longer than what came in: it says more and counts as full. Else prove '..UptoSaid'. A law counts once. -/
mutual
def uptoBulk {H : Type} : DataW H → Nat
  | .lit (.string bytes) => bytes.length + 1
  | .lit _ => 1
  | .nil => 1
  | .ptr d => uptoBulk d + 1
  | .slice elems spare => uptoBulkAll elems + uptoBulkAll spare + 1
  | .agg parts => uptoBulkAll parts + 1
  | .iface _ d => uptoBulk d + 1
  | .map entries => uptoBulkEntries entries + 1
  | .held _ => 1
def uptoBulkAll {H : Type} : List (DataW H) → Nat
  | [] => 0
  | d :: r => uptoBulk d + uptoBulkAll r
def uptoBulkEntries {H : Type} : List (Lit × DataW H) → Nat
  | [] => 0
  | x :: r => uptoBulkEntry x + uptoBulkEntries r
def uptoBulkEntry {H : Type} : Lit × DataW H → Nat
  | (.string bytes, d) => bytes.length + uptoBulk d + 1
  | (_, d) => uptoBulk d + 1
 end
def uptoSmall : (H : Type) → List (DataW H) → Bool := fun _ ds => decide (uptoBulkAll ds ≤ 1048576)
def OpenSpec.upto (s : _root_.Go.ChangeSpec) : _root_.Go.OpenSpec := { _root_.Go.OpenSpec.ofChange s with cond := some uptoSmall }

/-- 'polyglotlaw2.SpotTells', WHERE WHAT IT READS IS OF BULK AT MOST 1048576: true; the input reads as it did. -/
def spotTellsUptoRow : OpenClaim := { program := "ytpejphfggfppdaa", sum := "fe033c9b0d899851f42dbe745de4dc81bea73069526d2fcac28ca12c0f6c3be8", func := "polyglot/polyglotlaw2.SpotTells", spec := "spotTells", inPlace := ["internal/bytealg.CountString", "internal/bytealg.IndexByteString", "internal/bytealg.IndexString"], named := ["internal/bytealg.MaxLen"], apart := false, narrowed := true }
def SpotTellsUptoSaid : Prop := spotTellsUptoRow.holds Try.pinned (OpenSpec.upto spotTellsSpec)

/-- 'polyglotlaw2.SpotLines', WHERE WHAT IT READS IS OF BULK AT MOST 1048576: true; the input reads as it did. -/
def spotLinesUptoRow : OpenClaim := { program := "ytpejphfggfppdaa", sum := "fe033c9b0d899851f42dbe745de4dc81bea73069526d2fcac28ca12c0f6c3be8", func := "polyglot/polyglotlaw2.SpotLines", spec := "spotLines", inPlace := ["internal/bytealg.CountString", "internal/bytealg.IndexByteString", "internal/bytealg.IndexString"], named := ["internal/bytealg.MaxLen"], apart := false, narrowed := true }
def SpotLinesUptoSaid : Prop := spotLinesUptoRow.holds Try.pinned (OpenSpec.upto spotLinesSpec)

/-- 'polyglotlaw2.SpotAhead', WHERE WHAT IT READS IS OF BULK AT MOST 1048576: true; the input reads as it did. -/
def spotAheadUptoRow : OpenClaim := { program := "ytpejphfggfppdaa", sum := "fe033c9b0d899851f42dbe745de4dc81bea73069526d2fcac28ca12c0f6c3be8", func := "polyglot/polyglotlaw2.SpotAhead", spec := "spotAhead", inPlace := ["internal/bytealg.CountString", "internal/bytealg.IndexByteString", "internal/bytealg.IndexString"], named := ["internal/bytealg.MaxLen"], apart := false, narrowed := true }
def SpotAheadUptoSaid : Prop := spotAheadUptoRow.holds Try.pinned (OpenSpec.upto spotAheadSpec)

/-- 'polyglotlaw2.SpotFirst', WHERE WHAT IT READS IS OF BULK AT MOST 1048576: true; the input reads as it did. -/
def spotFirstUptoRow : OpenClaim := { program := "ytpejphfggfppdaa", sum := "fe033c9b0d899851f42dbe745de4dc81bea73069526d2fcac28ca12c0f6c3be8", func := "polyglot/polyglotlaw2.SpotFirst", spec := "spotFirst", inPlace := ["internal/bytealg.CountString", "internal/bytealg.IndexByteString", "internal/bytealg.IndexString"], named := ["internal/bytealg.MaxLen"], apart := false, narrowed := true }
def SpotFirstUptoSaid : Prop := spotFirstUptoRow.holds Try.pinned (OpenSpec.upto spotFirstSpec)

end Rows
end Go.Proofs.Ytpejphfggfppdaa
