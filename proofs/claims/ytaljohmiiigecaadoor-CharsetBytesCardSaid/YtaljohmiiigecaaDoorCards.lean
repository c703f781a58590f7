/-
  DERIVED. GIVEN WITH THE SEED: THE CARDS: each row of YtaljohmiiigecaaDoorRows.lean that lists a variable, with what it lists TIED to the program's text (the seventh form; the later family's looks); each row that meets fmt, with fmt's text TOLD by the authors' own Lean function (tested against real Go, not proved from fmt's source: count such statements apart). THE CARD IS WHAT COUNTS. Prove the row's statement (the work); the ties are given (YtaljohmiiigecaaDoorTie.lean); close each card by the builder's one call (the guide's Derived/Test/ToyasCard.lean, 'card_holds'). Laid BY PROGRAM, IN A SANDBOX (cutbox-door.mjs). By AI agents, Wed Nov 11 2026. No macro, syntax, notation, axiom, sorry.
-/
import Derived.Test.YtaljohmiiigecaaDoorRows
import GoSem.ClaimSeven
namespace Go.Proofs.YtaljohmiiigecaaDoor
namespace Rows

/-- THE TIED CARD OF 'polyglotlaw12.CharsetTells'. -/
def charsetTellsCard : Claim7 := { stood := { row := charsetTellsRow, standIns := [], harness := (true, "ef54f2473255f16d3d220bea964c1914602af2abca4a2bb8b2ef8ac5a092ae1e"), looks := false }, kinds := [], alts := [], laidByText := true, laidKinds := [.data, .data], laidTests := true, laidLooks := .later }
def CharsetTellsCardSaid : Prop := Claim7.holds Tryd.pinned (.plain (OpenSpec.ofChange charsetTellsSpec)) charsetTellsCard

/-- THE TIED CARD OF 'polyglotlaw12.CharsetBytes'. -/
def charsetBytesCard : Claim7 := { stood := { row := charsetBytesRow, standIns := [], harness := (true, "ef54f2473255f16d3d220bea964c1914602af2abca4a2bb8b2ef8ac5a092ae1e"), looks := false }, kinds := [], alts := [], laidByText := true, laidKinds := [.data, .data], laidTests := true, laidLooks := .later }
def CharsetBytesCardSaid : Prop := Claim7.holds Tryd.pinned (.plain (OpenSpec.ofChange charsetBytesSpec)) charsetBytesCard

/-- THE TIED CARD OF 'polyglotlaw12.CharsetJoins'. -/
def charsetJoinsCard : Claim7 := { stood := { row := charsetJoinsRow, standIns := [], harness := (true, "ef54f2473255f16d3d220bea964c1914602af2abca4a2bb8b2ef8ac5a092ae1e"), looks := false }, kinds := [], alts := [], laidByText := true, laidKinds := [.data, .data], laidTests := true, laidLooks := .later }
def CharsetJoinsCardSaid : Prop := Claim7.holds Tryd.pinned (.plain (OpenSpec.ofChange charsetJoinsSpec)) charsetJoinsCard

/-- THE SECOND FORM's CARD OF 'polyglotlaw12.CharsetTells'. -/
def charsetTellsUptoCard : Claim7 := { stood := { row := charsetTellsUptoRow, standIns := [], harness := (true, "ef54f2473255f16d3d220bea964c1914602af2abca4a2bb8b2ef8ac5a092ae1e"), looks := false }, kinds := [], alts := [], laidByText := true, laidKinds := [.data, .data], laidTests := true, laidLooks := .later }
def CharsetTellsUptoCardSaid : Prop := Claim7.holds Tryd.pinned (.plain (OpenSpec.upto charsetTellsSpec)) charsetTellsUptoCard

/-- THE SECOND FORM's CARD OF 'polyglotlaw12.CharsetBytes'. -/
def charsetBytesUptoCard : Claim7 := { stood := { row := charsetBytesUptoRow, standIns := [], harness := (true, "ef54f2473255f16d3d220bea964c1914602af2abca4a2bb8b2ef8ac5a092ae1e"), looks := false }, kinds := [], alts := [], laidByText := true, laidKinds := [.data, .data], laidTests := true, laidLooks := .later }
def CharsetBytesUptoCardSaid : Prop := Claim7.holds Tryd.pinned (.plain (OpenSpec.upto charsetBytesSpec)) charsetBytesUptoCard

/-- THE SECOND FORM's CARD OF 'polyglotlaw12.CharsetJoins'. -/
def charsetJoinsUptoCard : Claim7 := { stood := { row := charsetJoinsUptoRow, standIns := [], harness := (true, "ef54f2473255f16d3d220bea964c1914602af2abca4a2bb8b2ef8ac5a092ae1e"), looks := false }, kinds := [], alts := [], laidByText := true, laidKinds := [.data, .data], laidTests := true, laidLooks := .later }
def CharsetJoinsUptoCardSaid : Prop := Claim7.holds Tryd.pinned (.plain (OpenSpec.upto charsetJoinsSpec)) charsetJoinsUptoCard
end Rows
end Go.Proofs.YtaljohmiiigecaaDoor
