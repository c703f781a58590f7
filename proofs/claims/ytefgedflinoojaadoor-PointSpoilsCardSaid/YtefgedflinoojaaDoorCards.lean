/-
  DERIVED. GIVEN WITH THE SEED: THE CARDS: each row of YtefgedflinoojaaDoorRows.lean that lists a variable, with what it lists TIED to the program's text (the seventh form; the later family's looks); each row that meets fmt, with fmt's text TOLD by the authors' own Lean function (tested against real Go, not proved from fmt's source: count such statements apart). THE CARD IS WHAT COUNTS. Prove the row's statement (the work); the ties are given (YtefgedflinoojaaDoorTie.lean); close each card by the builder's one call (the guide's Derived/Test/ToyasCard.lean, 'card_holds'). Laid BY PROGRAM, IN A SANDBOX (cutbox-door.mjs). By AI agents, Wed Nov 11 2026. No macro, syntax, notation, axiom, sorry.
-/
import Derived.Test.YtefgedflinoojaaDoorRows
import GoSem.ClaimSeven
namespace Go.Proofs.YtefgedflinoojaaDoor
namespace Rows

/-- THE TIED CARD OF 'polyglotlaw8.PointParts'. -/
def pointPartsCard : Claim7 := { stood := { row := pointPartsRow, standIns := [], harness := (true, "ea9248d624eaba658070ba60ec1763e39d01d036ae52cb81b6e436856a5bae6c"), looks := false }, kinds := [], alts := [], laidByText := true, laidKinds := [.data, .data], laidTests := true, laidLooks := .later }
def PointPartsCardSaid : Prop := Claim7.holds Tryd.pinned (.plain (OpenSpec.ofChange pointPartsSpec)) pointPartsCard

/-- THE TIED CARD OF 'polyglotlaw8.PointSpoils'. -/
def pointSpoilsCard : Claim7 := { stood := { row := pointSpoilsRow, standIns := [], harness := (true, "ea9248d624eaba658070ba60ec1763e39d01d036ae52cb81b6e436856a5bae6c"), looks := false }, kinds := [], alts := [], laidByText := true, laidKinds := [.data, .data], laidTests := true, laidLooks := .later }
def PointSpoilsCardSaid : Prop := Claim7.holds Tryd.pinned (.plain (OpenSpec.ofChange pointSpoilsSpec)) pointSpoilsCard

/-- THE SECOND FORM's CARD OF 'polyglotlaw8.PointParts'. -/
def pointPartsUptoCard : Claim7 := { stood := { row := pointPartsUptoRow, standIns := [], harness := (true, "ea9248d624eaba658070ba60ec1763e39d01d036ae52cb81b6e436856a5bae6c"), looks := false }, kinds := [], alts := [], laidByText := true, laidKinds := [.data, .data], laidTests := true, laidLooks := .later }
def PointPartsUptoCardSaid : Prop := Claim7.holds Tryd.pinned (.plain (OpenSpec.upto pointPartsSpec)) pointPartsUptoCard

/-- THE SECOND FORM's CARD OF 'polyglotlaw8.PointSpoils'. -/
def pointSpoilsUptoCard : Claim7 := { stood := { row := pointSpoilsUptoRow, standIns := [], harness := (true, "ea9248d624eaba658070ba60ec1763e39d01d036ae52cb81b6e436856a5bae6c"), looks := false }, kinds := [], alts := [], laidByText := true, laidKinds := [.data, .data], laidTests := true, laidLooks := .later }
def PointSpoilsUptoCardSaid : Prop := Claim7.holds Tryd.pinned (.plain (OpenSpec.upto pointSpoilsSpec)) pointSpoilsUptoCard
end Rows
end Go.Proofs.YtefgedflinoojaaDoor
