/-
  DERIVED. GIVEN WITH THE SEED: THE CARDS: each row of YtgdhfmcipaoapaaDoorRows.lean that lists a variable, with what it lists TIED to the program's text (the seventh form; the later family's looks); each row that meets fmt, with fmt's text TOLD by the authors' own Lean function (tested against real Go, not proved from fmt's source: count such statements apart). THE CARD IS WHAT COUNTS. Prove the row's statement (the work); the ties are given (YtgdhfmcipaoapaaDoorTie.lean); close each card by the builder's one call (the guide's Derived/Test/ToyasCard.lean, 'card_holds'). Laid BY PROGRAM, IN A SANDBOX (cutbox-door.mjs). By AI agents, Wed Nov 11 2026. No macro, syntax, notation, axiom, sorry.
-/
import Derived.Test.YtgdhfmcipaoapaaDoorRows
import GoSem.ClaimSeven
namespace Go.Proofs.YtgdhfmcipaoapaaDoor
namespace Rows

/-- THE TIED CARD OF 'polyglotlaw14.LossyTells'. -/
def lossyTellsCard : Claim7 := { stood := { row := lossyTellsRow, standIns := [], harness := (true, "29a9f2dd97e73c82ba1be067d60c1fbaf8fa425c60dfd8eb078b99f929cbab94"), looks := false }, kinds := [], alts := [], laidByText := true, laidKinds := [.data, .data], laidTests := true, laidLooks := .later }
def LossyTellsCardSaid : Prop := Claim7.holds Tryd.pinned (.plain (OpenSpec.ofChange lossyTellsSpec)) lossyTellsCard

/-- THE TIED CARD OF 'polyglotlaw14.LossyPair'. -/
def lossyPairCard : Claim7 := { stood := { row := lossyPairRow, standIns := [], harness := (true, "29a9f2dd97e73c82ba1be067d60c1fbaf8fa425c60dfd8eb078b99f929cbab94"), looks := false }, kinds := [], alts := [], laidByText := true, laidKinds := [.data, .data], laidTests := true, laidLooks := .later }
def LossyPairCardSaid : Prop := Claim7.holds Tryd.pinned (.plain (OpenSpec.ofChange lossyPairSpec)) lossyPairCard

/-- THE TIED CARD OF 'polyglotlaw14.LossyLegal'. -/
def lossyLegalCard : Claim7 := { stood := { row := lossyLegalRow, standIns := [], harness := (true, "29a9f2dd97e73c82ba1be067d60c1fbaf8fa425c60dfd8eb078b99f929cbab94"), looks := false }, kinds := [], alts := [], laidByText := true, laidKinds := [.data, .data], laidTests := true, laidLooks := .later }
def LossyLegalCardSaid : Prop := Claim7.holds Tryd.pinned (.plain (OpenSpec.ofChange lossyLegalSpec)) lossyLegalCard

/-- THE TIED CARD OF 'polyglotlaw14.LossyOrder'. -/
def lossyOrderCard : Claim7 := { stood := { row := lossyOrderRow, standIns := [], harness := (true, "29a9f2dd97e73c82ba1be067d60c1fbaf8fa425c60dfd8eb078b99f929cbab94"), looks := false }, kinds := [], alts := [], laidByText := true, laidKinds := [.data, .data], laidTests := true, laidLooks := .later }
def LossyOrderCardSaid : Prop := Claim7.holds Tryd.pinned (.plain (OpenSpec.ofChange lossyOrderSpec)) lossyOrderCard

/-- THE SECOND FORM's CARD OF 'polyglotlaw14.LossyTells'. -/
def lossyTellsUptoCard : Claim7 := { stood := { row := lossyTellsUptoRow, standIns := [], harness := (true, "29a9f2dd97e73c82ba1be067d60c1fbaf8fa425c60dfd8eb078b99f929cbab94"), looks := false }, kinds := [], alts := [], laidByText := true, laidKinds := [.data, .data], laidTests := true, laidLooks := .later }
def LossyTellsUptoCardSaid : Prop := Claim7.holds Tryd.pinned (.plain (OpenSpec.upto lossyTellsSpec)) lossyTellsUptoCard

/-- THE SECOND FORM's CARD OF 'polyglotlaw14.LossyPair'. -/
def lossyPairUptoCard : Claim7 := { stood := { row := lossyPairUptoRow, standIns := [], harness := (true, "29a9f2dd97e73c82ba1be067d60c1fbaf8fa425c60dfd8eb078b99f929cbab94"), looks := false }, kinds := [], alts := [], laidByText := true, laidKinds := [.data, .data], laidTests := true, laidLooks := .later }
def LossyPairUptoCardSaid : Prop := Claim7.holds Tryd.pinned (.plain (OpenSpec.upto lossyPairSpec)) lossyPairUptoCard

/-- THE SECOND FORM's CARD OF 'polyglotlaw14.LossyLegal'. -/
def lossyLegalUptoCard : Claim7 := { stood := { row := lossyLegalUptoRow, standIns := [], harness := (true, "29a9f2dd97e73c82ba1be067d60c1fbaf8fa425c60dfd8eb078b99f929cbab94"), looks := false }, kinds := [], alts := [], laidByText := true, laidKinds := [.data, .data], laidTests := true, laidLooks := .later }
def LossyLegalUptoCardSaid : Prop := Claim7.holds Tryd.pinned (.plain (OpenSpec.upto lossyLegalSpec)) lossyLegalUptoCard

/-- THE SECOND FORM's CARD OF 'polyglotlaw14.LossyOrder'. -/
def lossyOrderUptoCard : Claim7 := { stood := { row := lossyOrderUptoRow, standIns := [], harness := (true, "29a9f2dd97e73c82ba1be067d60c1fbaf8fa425c60dfd8eb078b99f929cbab94"), looks := false }, kinds := [], alts := [], laidByText := true, laidKinds := [.data, .data], laidTests := true, laidLooks := .later }
def LossyOrderUptoCardSaid : Prop := Claim7.holds Tryd.pinned (.plain (OpenSpec.upto lossyOrderSpec)) lossyOrderUptoCard
end Rows
end Go.Proofs.YtgdhfmcipaoapaaDoor
