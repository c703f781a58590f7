/-
  DERIVED. GIVEN WITH THE SEED: THE CARDS: each row of YtmbpldnclnahmaaDoorRows.lean that lists a variable, with what it lists TIED to the program's text (the seventh form; the later family's looks); each row that meets fmt, with fmt's text TOLD by the authors' own Lean function (tested against real Go, not proved from fmt's source: count such statements apart). THE CARD IS WHAT COUNTS. Prove the row's statement (the work); the ties are given (YtmbpldnclnahmaaDoorTie.lean); close each card by the builder's one call (the guide's Derived/Test/ToyasCard.lean, 'card_holds'). Laid BY PROGRAM, IN A SANDBOX (cutbox-door.mjs). By AI agents, Wed Nov 11 2026. No macro, syntax, notation, axiom, sorry.
-/
import Derived.Test.YtmbpldnclnahmaaDoorRows
import GoSem.ClaimSeven
namespace Go.Proofs.YtmbpldnclnahmaaDoor
namespace Rows

/-- THE TIED CARD OF 'polyglotlaw6.StampTells'. -/
def stampTellsCard : Claim7 := { stood := { row := stampTellsRow, standIns := [], harness := (true, "26ab735c7f5514cdcbf1269c9c70083b0d21e3a9a04967aeeb710ca910dbfe95"), looks := false }, kinds := [], alts := [], laidByText := true, laidKinds := [.data, .data, .pinned], laidTests := true, laidLooks := .later }
def StampTellsCardSaid : Prop := Claim7.holds Tryd.pinned (.plain (OpenSpec.ofChange stampTellsSpec)) stampTellsCard

/-- THE TIED CARD OF 'polyglotlaw6.StampBack'. -/
def stampBackCard : Claim7 := { stood := { row := stampBackRow, standIns := [], harness := (true, "26ab735c7f5514cdcbf1269c9c70083b0d21e3a9a04967aeeb710ca910dbfe95"), looks := false }, kinds := [], alts := [], laidByText := true, laidKinds := [.data, .data, .pinned], laidTests := true, laidLooks := .later }
def StampBackCardSaid : Prop := Claim7.holds Tryd.pinned (.plain (OpenSpec.ofChange stampBackSpec)) stampBackCard

/-- THE TIED CARD OF 'polyglotlaw6.StampBounds'. -/
def stampBoundsCard : Claim7 := { stood := { row := stampBoundsRow, standIns := [], harness := (true, "26ab735c7f5514cdcbf1269c9c70083b0d21e3a9a04967aeeb710ca910dbfe95"), looks := false }, kinds := [], alts := [], laidByText := true, laidKinds := [.data, .data, .pinned], laidTests := true, laidLooks := .later }
def StampBoundsCardSaid : Prop := Claim7.holds Tryd.pinned (.plain (OpenSpec.ofChange stampBoundsSpec)) stampBoundsCard

/-- THE TIED CARD OF 'polyglotlaw6.StampInts'. -/
def stampIntsCard : Claim7 := { stood := { row := stampIntsRow, standIns := [], harness := (true, "26ab735c7f5514cdcbf1269c9c70083b0d21e3a9a04967aeeb710ca910dbfe95"), looks := false }, kinds := [], alts := [], laidByText := true, laidKinds := [.data, .data, .pinned], laidTests := true, laidLooks := .later }
def StampIntsCardSaid : Prop := Claim7.holds Tryd.pinned (.plain (OpenSpec.ofChange stampIntsSpec)) stampIntsCard

/-- THE SECOND FORM's CARD OF 'polyglotlaw6.StampTells'. -/
def stampTellsUptoCard : Claim7 := { stood := { row := stampTellsUptoRow, standIns := [], harness := (true, "26ab735c7f5514cdcbf1269c9c70083b0d21e3a9a04967aeeb710ca910dbfe95"), looks := false }, kinds := [], alts := [], laidByText := true, laidKinds := [.data, .data, .pinned], laidTests := true, laidLooks := .later }
def StampTellsUptoCardSaid : Prop := Claim7.holds Tryd.pinned (.plain (OpenSpec.upto stampTellsSpec)) stampTellsUptoCard

/-- THE SECOND FORM's CARD OF 'polyglotlaw6.StampBack'. -/
def stampBackUptoCard : Claim7 := { stood := { row := stampBackUptoRow, standIns := [], harness := (true, "26ab735c7f5514cdcbf1269c9c70083b0d21e3a9a04967aeeb710ca910dbfe95"), looks := false }, kinds := [], alts := [], laidByText := true, laidKinds := [.data, .data, .pinned], laidTests := true, laidLooks := .later }
def StampBackUptoCardSaid : Prop := Claim7.holds Tryd.pinned (.plain (OpenSpec.upto stampBackSpec)) stampBackUptoCard

/-- THE SECOND FORM's CARD OF 'polyglotlaw6.StampBounds'. -/
def stampBoundsUptoCard : Claim7 := { stood := { row := stampBoundsUptoRow, standIns := [], harness := (true, "26ab735c7f5514cdcbf1269c9c70083b0d21e3a9a04967aeeb710ca910dbfe95"), looks := false }, kinds := [], alts := [], laidByText := true, laidKinds := [.data, .data, .pinned], laidTests := true, laidLooks := .later }
def StampBoundsUptoCardSaid : Prop := Claim7.holds Tryd.pinned (.plain (OpenSpec.upto stampBoundsSpec)) stampBoundsUptoCard

/-- THE SECOND FORM's CARD OF 'polyglotlaw6.StampInts'. -/
def stampIntsUptoCard : Claim7 := { stood := { row := stampIntsUptoRow, standIns := [], harness := (true, "26ab735c7f5514cdcbf1269c9c70083b0d21e3a9a04967aeeb710ca910dbfe95"), looks := false }, kinds := [], alts := [], laidByText := true, laidKinds := [.data, .data, .pinned], laidTests := true, laidLooks := .later }
def StampIntsUptoCardSaid : Prop := Claim7.holds Tryd.pinned (.plain (OpenSpec.upto stampIntsSpec)) stampIntsUptoCard
end Rows
end Go.Proofs.YtmbpldnclnahmaaDoor
