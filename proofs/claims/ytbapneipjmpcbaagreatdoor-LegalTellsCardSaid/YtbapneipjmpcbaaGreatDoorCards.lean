/-
  DERIVED. GIVEN WITH THE SEED: THE CARDS: each row of YtbapneipjmpcbaaGreatDoorRows.lean that lists a variable, with what it lists TIED to the program's text (the seventh form; the later family's looks); each row that meets fmt, with fmt's text TOLD by the authors' own Lean function (tested against real Go, not proved from fmt's source: count such statements apart). THE CARD IS WHAT COUNTS. Prove the row's statement (the work); the ties are given (YtbapneipjmpcbaaGreatDoorTie.lean); close each card by the builder's one call (the guide's Derived/Test/ToyasCard.lean, 'card_holds'). Laid BY PROGRAM, IN A SANDBOX (cutbox-door.mjs). By AI agents, Wed Nov 11 2026. No macro, syntax, notation, axiom, sorry.
-/
import Derived.Test.YtbapneipjmpcbaaGreatDoorRows
import GoSem.ClaimSeven
namespace Go.Proofs.YtbapneipjmpcbaaGreatDoor
namespace Rows

/-- THE TIED CARD OF 'polyglotlaw15.LegalTells'. -/
def legalTellsCard : Claim7 := { stood := { row := legalTellsRow, standIns := [], harness := (true, "ff26550106b3c5328e103b377beec62e20ac97767f8dc8868b544ce140dbe22b"), looks := false }, kinds := [], alts := [], laidByText := true, laidKinds := [.data, .data, .data, .data], laidTests := true, laidLooks := .later }
def LegalTellsCardSaid : Prop := Claim7.holds Tryz.pinned (.plain (OpenSpec.ofChange legalTellsSpec)) legalTellsCard

/-- THE TIED CARD OF 'polyglotlaw15.LegalBack'. -/
def legalBackCard : Claim7 := { stood := { row := legalBackRow, standIns := [], harness := (true, "ff26550106b3c5328e103b377beec62e20ac97767f8dc8868b544ce140dbe22b"), looks := false }, kinds := [], alts := [], laidByText := true, laidKinds := [.data, .data, .data, .data], laidTests := true, laidLooks := .later }
def LegalBackCardSaid : Prop := Claim7.holds Tryz.pinned (.plain (OpenSpec.ofChange legalBackSpec)) legalBackCard

/-- THE TIED CARD OF 'polyglotlaw15.LegalLossy'. -/
def legalLossyCard : Claim7 := { stood := { row := legalLossyRow, standIns := [], harness := (true, "ff26550106b3c5328e103b377beec62e20ac97767f8dc8868b544ce140dbe22b"), looks := false }, kinds := [], alts := [], laidByText := true, laidKinds := [.data, .data, .data, .data], laidTests := true, laidLooks := .later }
def LegalLossyCardSaid : Prop := Claim7.holds Tryz.pinned (.plain (OpenSpec.ofChange legalLossySpec)) legalLossyCard

/-- THE TIED CARD OF 'polyglotlaw15.LegalStays'. -/
def legalStaysCard : Claim7 := { stood := { row := legalStaysRow, standIns := [], harness := (true, "ff26550106b3c5328e103b377beec62e20ac97767f8dc8868b544ce140dbe22b"), looks := false }, kinds := [], alts := [], laidByText := true, laidKinds := [.data, .data, .data, .data], laidTests := true, laidLooks := .later }
def LegalStaysCardSaid : Prop := Claim7.holds Tryz.pinned (.plain (OpenSpec.ofChange legalStaysSpec)) legalStaysCard

/-- THE SECOND FORM's CARD OF 'polyglotlaw15.LegalTells'. -/
def legalTellsUptoCard : Claim7 := { stood := { row := legalTellsUptoRow, standIns := [], harness := (true, "ff26550106b3c5328e103b377beec62e20ac97767f8dc8868b544ce140dbe22b"), looks := false }, kinds := [], alts := [], laidByText := true, laidKinds := [.data, .data, .data, .data], laidTests := true, laidLooks := .later }
def LegalTellsUptoCardSaid : Prop := Claim7.holds Tryz.pinned (.plain (OpenSpec.upto legalTellsSpec)) legalTellsUptoCard

/-- THE SECOND FORM's CARD OF 'polyglotlaw15.LegalBack'. -/
def legalBackUptoCard : Claim7 := { stood := { row := legalBackUptoRow, standIns := [], harness := (true, "ff26550106b3c5328e103b377beec62e20ac97767f8dc8868b544ce140dbe22b"), looks := false }, kinds := [], alts := [], laidByText := true, laidKinds := [.data, .data, .data, .data], laidTests := true, laidLooks := .later }
def LegalBackUptoCardSaid : Prop := Claim7.holds Tryz.pinned (.plain (OpenSpec.upto legalBackSpec)) legalBackUptoCard

/-- THE SECOND FORM's CARD OF 'polyglotlaw15.LegalLossy'. -/
def legalLossyUptoCard : Claim7 := { stood := { row := legalLossyUptoRow, standIns := [], harness := (true, "ff26550106b3c5328e103b377beec62e20ac97767f8dc8868b544ce140dbe22b"), looks := false }, kinds := [], alts := [], laidByText := true, laidKinds := [.data, .data, .data, .data], laidTests := true, laidLooks := .later }
def LegalLossyUptoCardSaid : Prop := Claim7.holds Tryz.pinned (.plain (OpenSpec.upto legalLossySpec)) legalLossyUptoCard

/-- THE SECOND FORM's CARD OF 'polyglotlaw15.LegalStays'. -/
def legalStaysUptoCard : Claim7 := { stood := { row := legalStaysUptoRow, standIns := [], harness := (true, "ff26550106b3c5328e103b377beec62e20ac97767f8dc8868b544ce140dbe22b"), looks := false }, kinds := [], alts := [], laidByText := true, laidKinds := [.data, .data, .data, .data], laidTests := true, laidLooks := .later }
def LegalStaysUptoCardSaid : Prop := Claim7.holds Tryz.pinned (.plain (OpenSpec.upto legalStaysSpec)) legalStaysUptoCard
end Rows
end Go.Proofs.YtbapneipjmpcbaaGreatDoor
