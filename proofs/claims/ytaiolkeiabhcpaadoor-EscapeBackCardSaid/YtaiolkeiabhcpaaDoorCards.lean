/-
  DERIVED. GIVEN WITH THE SEED: THE CARDS: each row of YtaiolkeiabhcpaaDoorRows.lean that lists a variable, with what it lists TIED to the program's text (the seventh form; the later family's looks); each row that meets fmt, with fmt's text TOLD by the authors' own Lean function (tested against real Go, not proved from fmt's source: count such statements apart). THE CARD IS WHAT COUNTS. Prove the row's statement (the work); the ties are given (YtaiolkeiabhcpaaDoorTie.lean); close each card by the builder's one call (the guide's Derived/Test/ToyasCard.lean, 'card_holds'). Laid BY PROGRAM, IN A SANDBOX (cutbox-door.mjs). By AI agents, Wed Nov 11 2026. No macro, syntax, notation, axiom, sorry.
-/
import Derived.Test.YtaiolkeiabhcpaaDoorRows
import GoSem.ClaimSeven
namespace Go.Proofs.YtaiolkeiabhcpaaDoor
namespace Rows

/-- THE TIED CARD OF 'polyglotlaw13.EscapeTells'. -/
def escapeTellsCard : Claim7 := { stood := { row := escapeTellsRow, standIns := [], harness := (true, "55745b97cb7e4caf1daf15fccc4451c44364fdfafc81cb4f39eb3398adc55451"), looks := false }, kinds := [], alts := [], laidByText := true, laidKinds := [.data, .data], laidTests := true, laidLooks := .later }
def EscapeTellsCardSaid : Prop := Claim7.holds Tryd.pinned (.plain (OpenSpec.ofChange escapeTellsSpec)) escapeTellsCard

/-- THE TIED CARD OF 'polyglotlaw13.EscapeBack'. -/
def escapeBackCard : Claim7 := { stood := { row := escapeBackRow, standIns := [], harness := (true, "55745b97cb7e4caf1daf15fccc4451c44364fdfafc81cb4f39eb3398adc55451"), looks := false }, kinds := [], alts := [], laidByText := true, laidKinds := [.data, .data], laidTests := true, laidLooks := .later }
def EscapeBackCardSaid : Prop := Claim7.holds Tryd.pinned (.plain (OpenSpec.ofChange escapeBackSpec)) escapeBackCard

/-- THE TIED CARD OF 'polyglotlaw13.EscapeStays'. -/
def escapeStaysCard : Claim7 := { stood := { row := escapeStaysRow, standIns := [], harness := (true, "55745b97cb7e4caf1daf15fccc4451c44364fdfafc81cb4f39eb3398adc55451"), looks := false }, kinds := [], alts := [], laidByText := true, laidKinds := [.data, .data], laidTests := true, laidLooks := .later }
def EscapeStaysCardSaid : Prop := Claim7.holds Tryd.pinned (.plain (OpenSpec.ofChange escapeStaysSpec)) escapeStaysCard

/-- THE TIED CARD OF 'polyglotlaw13.EscapeFar'. -/
def escapeFarCard : Claim7 := { stood := { row := escapeFarRow, standIns := [], harness := (true, "55745b97cb7e4caf1daf15fccc4451c44364fdfafc81cb4f39eb3398adc55451"), looks := false }, kinds := [], alts := [], laidByText := true, laidKinds := [.data, .data], laidTests := true, laidLooks := .later }
def EscapeFarCardSaid : Prop := Claim7.holds Tryd.pinned (.plain (OpenSpec.ofChange escapeFarSpec)) escapeFarCard

/-- THE SECOND FORM's CARD OF 'polyglotlaw13.EscapeTells'. -/
def escapeTellsUptoCard : Claim7 := { stood := { row := escapeTellsUptoRow, standIns := [], harness := (true, "55745b97cb7e4caf1daf15fccc4451c44364fdfafc81cb4f39eb3398adc55451"), looks := false }, kinds := [], alts := [], laidByText := true, laidKinds := [.data, .data], laidTests := true, laidLooks := .later }
def EscapeTellsUptoCardSaid : Prop := Claim7.holds Tryd.pinned (.plain (OpenSpec.upto escapeTellsSpec)) escapeTellsUptoCard

/-- THE SECOND FORM's CARD OF 'polyglotlaw13.EscapeBack'. -/
def escapeBackUptoCard : Claim7 := { stood := { row := escapeBackUptoRow, standIns := [], harness := (true, "55745b97cb7e4caf1daf15fccc4451c44364fdfafc81cb4f39eb3398adc55451"), looks := false }, kinds := [], alts := [], laidByText := true, laidKinds := [.data, .data], laidTests := true, laidLooks := .later }
def EscapeBackUptoCardSaid : Prop := Claim7.holds Tryd.pinned (.plain (OpenSpec.upto escapeBackSpec)) escapeBackUptoCard

/-- THE SECOND FORM's CARD OF 'polyglotlaw13.EscapeStays'. -/
def escapeStaysUptoCard : Claim7 := { stood := { row := escapeStaysUptoRow, standIns := [], harness := (true, "55745b97cb7e4caf1daf15fccc4451c44364fdfafc81cb4f39eb3398adc55451"), looks := false }, kinds := [], alts := [], laidByText := true, laidKinds := [.data, .data], laidTests := true, laidLooks := .later }
def EscapeStaysUptoCardSaid : Prop := Claim7.holds Tryd.pinned (.plain (OpenSpec.upto escapeStaysSpec)) escapeStaysUptoCard

/-- THE SECOND FORM's CARD OF 'polyglotlaw13.EscapeFar'. -/
def escapeFarUptoCard : Claim7 := { stood := { row := escapeFarUptoRow, standIns := [], harness := (true, "55745b97cb7e4caf1daf15fccc4451c44364fdfafc81cb4f39eb3398adc55451"), looks := false }, kinds := [], alts := [], laidByText := true, laidKinds := [.data, .data], laidTests := true, laidLooks := .later }
def EscapeFarUptoCardSaid : Prop := Claim7.holds Tryd.pinned (.plain (OpenSpec.upto escapeFarSpec)) escapeFarUptoCard
end Rows
end Go.Proofs.YtaiolkeiabhcpaaDoor
