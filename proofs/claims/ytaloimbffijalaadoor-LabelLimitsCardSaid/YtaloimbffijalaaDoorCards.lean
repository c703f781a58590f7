/-
  DERIVED. GIVEN WITH THE SEED: THE CARDS: each row of YtaloimbffijalaaDoorRows.lean that lists a variable, with what it lists TIED to the program's text (the seventh form; the later family's looks); each row that meets fmt, with fmt's text TOLD by the authors' own Lean function (tested against real Go, not proved from fmt's source: count such statements apart). THE CARD IS WHAT COUNTS. Prove the row's statement (the work); the ties are given (YtaloimbffijalaaDoorTie.lean); close each card by the builder's one call (the guide's Derived/Test/ToyasCard.lean, 'card_holds'). Laid BY PROGRAM, IN A SANDBOX (cutbox-door.mjs). By AI agents, Wed Nov 11 2026. No macro, syntax, notation, axiom, sorry.
-/
import Derived.Test.YtaloimbffijalaaDoorRows
import GoSem.ClaimSeven
namespace Go.Proofs.YtaloimbffijalaaDoor
namespace Rows

/-- THE TIED CARD OF 'polyglotlaw7.LabelTells'. -/
def labelTellsCard : Claim7 := { stood := { row := labelTellsRow, standIns := [], harness := (true, "b29c2baaa9cee567712e6f92c688fff4d0cb8af837344dd5e4f3b999f2ff277b"), looks := false }, kinds := [], alts := [], laidByText := true, laidKinds := [.data], laidTests := true, laidLooks := .later }
def LabelTellsCardSaid : Prop := Claim7.holds Tryd.pinned (.plain (OpenSpec.ofChange labelTellsSpec)) labelTellsCard

/-- THE TIED CARD OF 'polyglotlaw7.LabelSorts'. -/
def labelSortsCard : Claim7 := { stood := { row := labelSortsRow, standIns := [], harness := (true, "b29c2baaa9cee567712e6f92c688fff4d0cb8af837344dd5e4f3b999f2ff277b"), looks := false }, kinds := [], alts := [], laidByText := true, laidKinds := [.data], laidTests := true, laidLooks := .later }
def LabelSortsCardSaid : Prop := Claim7.holds Tryd.pinned (.plain (OpenSpec.ofChange labelSortsSpec)) labelSortsCard

/-- THE TIED CARD OF 'polyglotlaw7.LabelOrder'. -/
def labelOrderCard : Claim7 := { stood := { row := labelOrderRow, standIns := [], harness := (true, "b29c2baaa9cee567712e6f92c688fff4d0cb8af837344dd5e4f3b999f2ff277b"), looks := false }, kinds := [], alts := [], laidByText := true, laidKinds := [.data], laidTests := true, laidLooks := .later }
def LabelOrderCardSaid : Prop := Claim7.holds Tryd.pinned (.plain (OpenSpec.ofChange labelOrderSpec)) labelOrderCard

/-- THE TIED CARD OF 'polyglotlaw7.LabelLimits'. -/
def labelLimitsCard : Claim7 := { stood := { row := labelLimitsRow, standIns := [], harness := (true, "b29c2baaa9cee567712e6f92c688fff4d0cb8af837344dd5e4f3b999f2ff277b"), looks := false }, kinds := [], alts := [], laidByText := true, laidKinds := [.data], laidTests := true, laidLooks := .later }
def LabelLimitsCardSaid : Prop := Claim7.holds Tryd.pinned (.plain (OpenSpec.ofChange labelLimitsSpec)) labelLimitsCard

/-- THE SECOND FORM's CARD OF 'polyglotlaw7.LabelTells'. -/
def labelTellsUptoCard : Claim7 := { stood := { row := labelTellsUptoRow, standIns := [], harness := (true, "b29c2baaa9cee567712e6f92c688fff4d0cb8af837344dd5e4f3b999f2ff277b"), looks := false }, kinds := [], alts := [], laidByText := true, laidKinds := [.data], laidTests := true, laidLooks := .later }
def LabelTellsUptoCardSaid : Prop := Claim7.holds Tryd.pinned (.plain (OpenSpec.upto labelTellsSpec)) labelTellsUptoCard

/-- THE SECOND FORM's CARD OF 'polyglotlaw7.LabelSorts'. -/
def labelSortsUptoCard : Claim7 := { stood := { row := labelSortsUptoRow, standIns := [], harness := (true, "b29c2baaa9cee567712e6f92c688fff4d0cb8af837344dd5e4f3b999f2ff277b"), looks := false }, kinds := [], alts := [], laidByText := true, laidKinds := [.data], laidTests := true, laidLooks := .later }
def LabelSortsUptoCardSaid : Prop := Claim7.holds Tryd.pinned (.plain (OpenSpec.upto labelSortsSpec)) labelSortsUptoCard

/-- THE SECOND FORM's CARD OF 'polyglotlaw7.LabelOrder'. -/
def labelOrderUptoCard : Claim7 := { stood := { row := labelOrderUptoRow, standIns := [], harness := (true, "b29c2baaa9cee567712e6f92c688fff4d0cb8af837344dd5e4f3b999f2ff277b"), looks := false }, kinds := [], alts := [], laidByText := true, laidKinds := [.data], laidTests := true, laidLooks := .later }
def LabelOrderUptoCardSaid : Prop := Claim7.holds Tryd.pinned (.plain (OpenSpec.upto labelOrderSpec)) labelOrderUptoCard

/-- THE SECOND FORM's CARD OF 'polyglotlaw7.LabelLimits'. -/
def labelLimitsUptoCard : Claim7 := { stood := { row := labelLimitsUptoRow, standIns := [], harness := (true, "b29c2baaa9cee567712e6f92c688fff4d0cb8af837344dd5e4f3b999f2ff277b"), looks := false }, kinds := [], alts := [], laidByText := true, laidKinds := [.data], laidTests := true, laidLooks := .later }
def LabelLimitsUptoCardSaid : Prop := Claim7.holds Tryd.pinned (.plain (OpenSpec.upto labelLimitsSpec)) labelLimitsUptoCard
end Rows
end Go.Proofs.YtaloimbffijalaaDoor
