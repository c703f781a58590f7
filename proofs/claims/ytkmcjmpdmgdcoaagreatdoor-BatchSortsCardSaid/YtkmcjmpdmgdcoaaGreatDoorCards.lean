/-
  DERIVED. GIVEN WITH THE SEED: THE CARDS: each row of YtkmcjmpdmgdcoaaGreatDoorRows.lean that lists a variable, with what it lists TIED to the program's text (the seventh form; the later family's looks); each row that meets fmt, with fmt's text TOLD by the authors' own Lean function (tested against real Go, not proved from fmt's source: count such statements apart). THE CARD IS WHAT COUNTS. Prove the row's statement (the work); the ties are given (YtkmcjmpdmgdcoaaGreatDoorTie.lean); close each card by the builder's one call (the guide's Derived/Test/ToyasCard.lean, 'card_holds'). Laid BY PROGRAM, IN A SANDBOX (cutbox-door.mjs). By AI agents, Wed Nov 11 2026. No macro, syntax, notation, axiom, sorry.
-/
import Derived.Test.YtkmcjmpdmgdcoaaGreatDoorRows
import GoSem.ClaimSeven
namespace Go.Proofs.YtkmcjmpdmgdcoaaGreatDoor
namespace Rows

/-- THE TIED CARD OF 'polyglotlaw10.BatchSorts'. -/
def batchSortsCard : Claim7 := { stood := { row := batchSortsRow, standIns := [], harness := (true, "6b5652ede273c240061e8ae80faf5f1e98b67d6a8f7347b81c64f71f1c8e3507"), looks := false }, kinds := [], alts := [], laidByText := true, laidKinds := [.data, .data], laidTests := true, laidLooks := .later }
def BatchSortsCardSaid : Prop := Claim7.holds Tryz.pinned (.plain (OpenSpec.ofChange batchSortsSpec)) batchSortsCard

/-- THE TIED CARD OF 'polyglotlaw10.BatchLimits'. -/
def batchLimitsCard : Claim7 := { stood := { row := batchLimitsRow, standIns := [], harness := (true, "6b5652ede273c240061e8ae80faf5f1e98b67d6a8f7347b81c64f71f1c8e3507"), looks := false }, kinds := [], alts := [], laidByText := true, laidKinds := [.data, .data], laidTests := true, laidLooks := .later }
def BatchLimitsCardSaid : Prop := Claim7.holds Tryz.pinned (.plain (OpenSpec.ofChange batchLimitsSpec)) batchLimitsCard

/-- THE TIED CARD OF 'polyglotlaw10.BatchOf'. -/
def batchOfCard : Claim7 := { stood := { row := batchOfRow, standIns := [], harness := (true, "6b5652ede273c240061e8ae80faf5f1e98b67d6a8f7347b81c64f71f1c8e3507"), looks := false }, kinds := [], alts := [], laidByText := true, laidKinds := [.data, .data], laidTests := true, laidLooks := .later }
def BatchOfCardSaid : Prop := Claim7.holds Tryz.pinned (.plain (OpenSpec.ofChange batchOfSpec)) batchOfCard

/-- THE SECOND FORM's CARD OF 'polyglotlaw10.BatchSorts'. -/
def batchSortsUptoCard : Claim7 := { stood := { row := batchSortsUptoRow, standIns := [], harness := (true, "6b5652ede273c240061e8ae80faf5f1e98b67d6a8f7347b81c64f71f1c8e3507"), looks := false }, kinds := [], alts := [], laidByText := true, laidKinds := [.data, .data], laidTests := true, laidLooks := .later }
def BatchSortsUptoCardSaid : Prop := Claim7.holds Tryz.pinned (.plain (OpenSpec.upto batchSortsSpec)) batchSortsUptoCard

/-- THE SECOND FORM's CARD OF 'polyglotlaw10.BatchLimits'. -/
def batchLimitsUptoCard : Claim7 := { stood := { row := batchLimitsUptoRow, standIns := [], harness := (true, "6b5652ede273c240061e8ae80faf5f1e98b67d6a8f7347b81c64f71f1c8e3507"), looks := false }, kinds := [], alts := [], laidByText := true, laidKinds := [.data, .data], laidTests := true, laidLooks := .later }
def BatchLimitsUptoCardSaid : Prop := Claim7.holds Tryz.pinned (.plain (OpenSpec.upto batchLimitsSpec)) batchLimitsUptoCard

/-- THE SECOND FORM's CARD OF 'polyglotlaw10.BatchOf'. -/
def batchOfUptoCard : Claim7 := { stood := { row := batchOfUptoRow, standIns := [], harness := (true, "6b5652ede273c240061e8ae80faf5f1e98b67d6a8f7347b81c64f71f1c8e3507"), looks := false }, kinds := [], alts := [], laidByText := true, laidKinds := [.data, .data], laidTests := true, laidLooks := .later }
def BatchOfUptoCardSaid : Prop := Claim7.holds Tryz.pinned (.plain (OpenSpec.upto batchOfSpec)) batchOfUptoCard
end Rows
end Go.Proofs.YtkmcjmpdmgdcoaaGreatDoor
