/-
  DERIVED. GIVEN WITH THE SEED: THE CARDS: each row of YtgoibhbmndpgpaaDoorRows.lean that lists a variable, with what it lists TIED to the program's text (the seventh form; the later family's looks); each row that meets fmt, with fmt's text TOLD by the authors' own Lean function (tested against real Go, not proved from fmt's source: count such statements apart). THE CARD IS WHAT COUNTS. Prove the row's statement (the work); the ties are given (YtgoibhbmndpgpaaDoorTie.lean); close each card by the builder's one call (the guide's Derived/Test/ToyasCard.lean, 'card_holds'). Laid BY PROGRAM, IN A SANDBOX (cutbox-door.mjs). By AI agents, Wed Nov 11 2026. No macro, syntax, notation, axiom, sorry.
-/
import Derived.Test.YtgoibhbmndpgpaaDoorRows
import GoSem.ClaimSeven
namespace Go.Proofs.YtgoibhbmndpgpaaDoor
namespace Rows

/-- THE TIED CARD OF 'polyglotlaw16.ClassHas'. -/
def classHasCard : Claim7 := { stood := { row := classHasRow, standIns := [], harness := (true, "94124fd6d0c8a4733b66349b41e99669648440f418a1e4acf3a243f5d1aa02bf"), looks := false }, kinds := [], alts := [], laidByText := true, laidKinds := [.data, .data, .data, .data], laidTests := true, laidLooks := .later }
def ClassHasCardSaid : Prop := Claim7.holds Tryd.pinned (.plain (OpenSpec.ofChange classHasSpec)) classHasCard

/-- THE TIED CARD OF 'polyglotlaw16.ClassParts'. -/
def classPartsCard : Claim7 := { stood := { row := classPartsRow, standIns := [], harness := (true, "94124fd6d0c8a4733b66349b41e99669648440f418a1e4acf3a243f5d1aa02bf"), looks := false }, kinds := [], alts := [], laidByText := true, laidKinds := [.data, .data, .data, .data], laidTests := true, laidLooks := .later }
def ClassPartsCardSaid : Prop := Claim7.holds Tryd.pinned (.plain (OpenSpec.ofChange classPartsSpec)) classPartsCard

/-- THE TIED CARD OF 'polyglotlaw16.ClassValues'. -/
def classValuesCard : Claim7 := { stood := { row := classValuesRow, standIns := [], harness := (true, "94124fd6d0c8a4733b66349b41e99669648440f418a1e4acf3a243f5d1aa02bf"), looks := false }, kinds := [], alts := [], laidByText := true, laidKinds := [.data, .data, .data, .data], laidTests := true, laidLooks := .later }
def ClassValuesCardSaid : Prop := Claim7.holds Tryd.pinned (.plain (OpenSpec.ofChange classValuesSpec)) classValuesCard

/-- THE SECOND FORM's CARD OF 'polyglotlaw16.ClassHas'. -/
def classHasUptoCard : Claim7 := { stood := { row := classHasUptoRow, standIns := [], harness := (true, "94124fd6d0c8a4733b66349b41e99669648440f418a1e4acf3a243f5d1aa02bf"), looks := false }, kinds := [], alts := [], laidByText := true, laidKinds := [.data, .data, .data, .data], laidTests := true, laidLooks := .later }
def ClassHasUptoCardSaid : Prop := Claim7.holds Tryd.pinned (.plain (OpenSpec.upto classHasSpec)) classHasUptoCard

/-- THE SECOND FORM's CARD OF 'polyglotlaw16.ClassParts'. -/
def classPartsUptoCard : Claim7 := { stood := { row := classPartsUptoRow, standIns := [], harness := (true, "94124fd6d0c8a4733b66349b41e99669648440f418a1e4acf3a243f5d1aa02bf"), looks := false }, kinds := [], alts := [], laidByText := true, laidKinds := [.data, .data, .data, .data], laidTests := true, laidLooks := .later }
def ClassPartsUptoCardSaid : Prop := Claim7.holds Tryd.pinned (.plain (OpenSpec.upto classPartsSpec)) classPartsUptoCard

/-- THE SECOND FORM's CARD OF 'polyglotlaw16.ClassValues'. -/
def classValuesUptoCard : Claim7 := { stood := { row := classValuesUptoRow, standIns := [], harness := (true, "94124fd6d0c8a4733b66349b41e99669648440f418a1e4acf3a243f5d1aa02bf"), looks := false }, kinds := [], alts := [], laidByText := true, laidKinds := [.data, .data, .data, .data], laidTests := true, laidLooks := .later }
def ClassValuesUptoCardSaid : Prop := Claim7.holds Tryd.pinned (.plain (OpenSpec.upto classValuesSpec)) classValuesUptoCard
end Rows
end Go.Proofs.YtgoibhbmndpgpaaDoor
