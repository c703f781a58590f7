/-
  DERIVED. GIVEN WITH THE SEED: THE CARDS: each row of YtjeefgamkoeiaaaGreatDoorRows.lean that lists a variable, with what it lists TIED to the program's text (the seventh form; the later family's looks); each row that meets fmt, with fmt's text TOLD by the authors' own Lean function (tested against real Go, not proved from fmt's source: count such statements apart). THE CARD IS WHAT COUNTS. Prove the row's statement (the work); the ties are given (YtjeefgamkoeiaaaGreatDoorTie.lean); close each card by the builder's one call (the guide's Derived/Test/ToyasCard.lean, 'card_holds'). Laid BY PROGRAM, IN A SANDBOX (cutbox-door.mjs). By AI agents, Wed Nov 11 2026. No macro, syntax, notation, axiom, sorry.
-/
import Derived.Test.YtjeefgamkoeiaaaGreatDoorRows
import GoSem.ClaimSeven
namespace Go.Proofs.YtjeefgamkoeiaaaGreatDoor
namespace Rows

/-- THE TIED CARD OF 'polyglotlaw11.MergeTells'. -/
def mergeTellsCard : Claim7 := { stood := { row := mergeTellsRow, standIns := [], harness := (true, "64fb97eb256aab9eab43ff9e909a7f86e7c4fd540cc710e98130df0f38512687"), looks := false }, kinds := [], alts := [], laidByText := true, laidKinds := [.data, .data], laidTests := true, laidLooks := .later }
def MergeTellsCardSaid : Prop := Claim7.holds Tryz.pinned (.plain (OpenSpec.ofChange mergeTellsSpec)) mergeTellsCard

/-- THE TIED CARD OF 'polyglotlaw11.MergeSelf'. -/
def mergeSelfCard : Claim7 := { stood := { row := mergeSelfRow, standIns := [], harness := (true, "64fb97eb256aab9eab43ff9e909a7f86e7c4fd540cc710e98130df0f38512687"), looks := false }, kinds := [], alts := [], laidByText := true, laidKinds := [.data, .data], laidTests := true, laidLooks := .later }
def MergeSelfCardSaid : Prop := Claim7.holds Tryz.pinned (.plain (OpenSpec.ofChange mergeSelfSpec)) mergeSelfCard

/-- THE TIED CARD OF 'polyglotlaw11.MergeParts'. -/
def mergePartsCard : Claim7 := { stood := { row := mergePartsRow, standIns := [], harness := (true, "64fb97eb256aab9eab43ff9e909a7f86e7c4fd540cc710e98130df0f38512687"), looks := false }, kinds := [], alts := [], laidByText := true, laidKinds := [.data, .data], laidTests := true, laidLooks := .later }
def MergePartsCardSaid : Prop := Claim7.holds Tryz.pinned (.plain (OpenSpec.ofChange mergePartsSpec)) mergePartsCard

/-- THE TIED CARD OF 'polyglotlaw11.MergeLater'. -/
def mergeLaterCard : Claim7 := { stood := { row := mergeLaterRow, standIns := [], harness := (true, "64fb97eb256aab9eab43ff9e909a7f86e7c4fd540cc710e98130df0f38512687"), looks := false }, kinds := [], alts := [], laidByText := true, laidKinds := [.data, .data], laidTests := true, laidLooks := .later }
def MergeLaterCardSaid : Prop := Claim7.holds Tryz.pinned (.plain (OpenSpec.ofChange mergeLaterSpec)) mergeLaterCard

/-- THE TIED CARD OF 'polyglotlaw11.MergeKinds'. -/
def mergeKindsCard : Claim7 := { stood := { row := mergeKindsRow, standIns := [], harness := (true, "64fb97eb256aab9eab43ff9e909a7f86e7c4fd540cc710e98130df0f38512687"), looks := false }, kinds := [], alts := [], laidByText := true, laidKinds := [.data, .data], laidTests := true, laidLooks := .later }
def MergeKindsCardSaid : Prop := Claim7.holds Tryz.pinned (.plain (OpenSpec.ofChange mergeKindsSpec)) mergeKindsCard

/-- THE SECOND FORM's CARD OF 'polyglotlaw11.MergeTells'. -/
def mergeTellsUptoCard : Claim7 := { stood := { row := mergeTellsUptoRow, standIns := [], harness := (true, "64fb97eb256aab9eab43ff9e909a7f86e7c4fd540cc710e98130df0f38512687"), looks := false }, kinds := [], alts := [], laidByText := true, laidKinds := [.data, .data], laidTests := true, laidLooks := .later }
def MergeTellsUptoCardSaid : Prop := Claim7.holds Tryz.pinned (.plain (OpenSpec.upto mergeTellsSpec)) mergeTellsUptoCard

/-- THE SECOND FORM's CARD OF 'polyglotlaw11.MergeSelf'. -/
def mergeSelfUptoCard : Claim7 := { stood := { row := mergeSelfUptoRow, standIns := [], harness := (true, "64fb97eb256aab9eab43ff9e909a7f86e7c4fd540cc710e98130df0f38512687"), looks := false }, kinds := [], alts := [], laidByText := true, laidKinds := [.data, .data], laidTests := true, laidLooks := .later }
def MergeSelfUptoCardSaid : Prop := Claim7.holds Tryz.pinned (.plain (OpenSpec.upto mergeSelfSpec)) mergeSelfUptoCard

/-- THE SECOND FORM's CARD OF 'polyglotlaw11.MergeParts'. -/
def mergePartsUptoCard : Claim7 := { stood := { row := mergePartsUptoRow, standIns := [], harness := (true, "64fb97eb256aab9eab43ff9e909a7f86e7c4fd540cc710e98130df0f38512687"), looks := false }, kinds := [], alts := [], laidByText := true, laidKinds := [.data, .data], laidTests := true, laidLooks := .later }
def MergePartsUptoCardSaid : Prop := Claim7.holds Tryz.pinned (.plain (OpenSpec.upto mergePartsSpec)) mergePartsUptoCard

/-- THE SECOND FORM's CARD OF 'polyglotlaw11.MergeLater'. -/
def mergeLaterUptoCard : Claim7 := { stood := { row := mergeLaterUptoRow, standIns := [], harness := (true, "64fb97eb256aab9eab43ff9e909a7f86e7c4fd540cc710e98130df0f38512687"), looks := false }, kinds := [], alts := [], laidByText := true, laidKinds := [.data, .data], laidTests := true, laidLooks := .later }
def MergeLaterUptoCardSaid : Prop := Claim7.holds Tryz.pinned (.plain (OpenSpec.upto mergeLaterSpec)) mergeLaterUptoCard

/-- THE SECOND FORM's CARD OF 'polyglotlaw11.MergeKinds'. -/
def mergeKindsUptoCard : Claim7 := { stood := { row := mergeKindsUptoRow, standIns := [], harness := (true, "64fb97eb256aab9eab43ff9e909a7f86e7c4fd540cc710e98130df0f38512687"), looks := false }, kinds := [], alts := [], laidByText := true, laidKinds := [.data, .data], laidTests := true, laidLooks := .later }
def MergeKindsUptoCardSaid : Prop := Claim7.holds Tryz.pinned (.plain (OpenSpec.upto mergeKindsSpec)) mergeKindsUptoCard
end Rows
end Go.Proofs.YtjeefgamkoeiaaaGreatDoor
