/-
  DERIVED. GIVEN WITH THE SEED: THE CARDS: each row of YtgoibhbmndpgpaaGreatDoorRows.lean that lists a variable, with what it lists TIED to the program's text (the seventh form; the later family's looks); each row that meets fmt, with fmt's text TOLD by the authors' own Lean function (tested against real Go, not proved from fmt's source: count such statements apart). THE CARD IS WHAT COUNTS. Prove the row's statement (the work); the ties are given (YtgoibhbmndpgpaaGreatDoorTie.lean); close each card by the builder's one call (the guide's Derived/Test/ToyasCard.lean, 'card_holds'). Laid BY PROGRAM, IN A SANDBOX (cutbox-door.mjs). By AI agents, Wed Nov 11 2026. No macro, syntax, notation, axiom, sorry.
-/
import Derived.Test.YtgoibhbmndpgpaaGreatDoorRows
import GoSem.ClaimSeven
namespace Go.Proofs.YtgoibhbmndpgpaaGreatDoor
namespace Rows

/-- THE TIED CARD OF 'polyglotlaw16.ClassTells'. -/
def classTellsCard : Claim7 := { stood := { row := classTellsRow, standIns := [], harness := (true, "e948df248e302c290950c167092d53aba2f72dbea3c299d87592c725351b5187"), looks := false }, kinds := [], alts := [], laidByText := true, laidKinds := [.data, .data, .data, .data], laidTests := true, laidLooks := .later }
def ClassTellsCardSaid : Prop := Claim7.holds Tryz.pinned (.plain (OpenSpec.ofChange classTellsSpec)) classTellsCard

/-- THE TIED CARD OF 'polyglotlaw16.ClassWhole'. -/
def classWholeCard : Claim7 := { stood := { row := classWholeRow, standIns := [], harness := (true, "e948df248e302c290950c167092d53aba2f72dbea3c299d87592c725351b5187"), looks := false }, kinds := [], alts := [], laidByText := true, laidKinds := [.data, .data, .data, .data], laidTests := true, laidLooks := .later }
def ClassWholeCardSaid : Prop := Claim7.holds Tryz.pinned (.plain (OpenSpec.ofChange classWholeSpec)) classWholeCard

/-- THE SECOND FORM's CARD OF 'polyglotlaw16.ClassTells'. -/
def classTellsUptoCard : Claim7 := { stood := { row := classTellsUptoRow, standIns := [], harness := (true, "e948df248e302c290950c167092d53aba2f72dbea3c299d87592c725351b5187"), looks := false }, kinds := [], alts := [], laidByText := true, laidKinds := [.data, .data, .data, .data], laidTests := true, laidLooks := .later }
def ClassTellsUptoCardSaid : Prop := Claim7.holds Tryz.pinned (.plain (OpenSpec.upto classTellsSpec)) classTellsUptoCard

/-- THE SECOND FORM's CARD OF 'polyglotlaw16.ClassWhole'. -/
def classWholeUptoCard : Claim7 := { stood := { row := classWholeUptoRow, standIns := [], harness := (true, "e948df248e302c290950c167092d53aba2f72dbea3c299d87592c725351b5187"), looks := false }, kinds := [], alts := [], laidByText := true, laidKinds := [.data, .data, .data, .data], laidTests := true, laidLooks := .later }
def ClassWholeUptoCardSaid : Prop := Claim7.holds Tryz.pinned (.plain (OpenSpec.upto classWholeSpec)) classWholeUptoCard
end Rows
end Go.Proofs.YtgoibhbmndpgpaaGreatDoor
