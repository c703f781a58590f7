/-
  DERIVED. GIVEN WITH THE SEED: THE CARDS: each row of YtobaclonacpoeaaDoorRows.lean that lists a variable, with what it lists TIED to the program's text (the seventh form; the later family's looks); each row that meets fmt, with fmt's text TOLD by the authors' own Lean function (tested against real Go, not proved from fmt's source: count such statements apart). THE CARD IS WHAT COUNTS. Prove the row's statement (the work); the ties are given (YtobaclonacpoeaaDoorTie.lean); close each card by the builder's one call (the guide's Derived/Test/ToyasCard.lean, 'card_holds'). Laid BY PROGRAM, IN A SANDBOX (cutbox-door.mjs). By AI agents, Wed Nov 11 2026. No macro, syntax, notation, axiom, sorry.
-/
import Derived.Test.YtobaclonacpoeaaDoorRows
import GoSem.ClaimSeven
namespace Go.Proofs.YtobaclonacpoeaaDoor
namespace Rows

/-- THE TIED CARD OF 'polyglotlaw1.UtfTells'. -/
def utfTellsCard : Claim7 := { stood := { row := utfTellsRow, standIns := [], harness := (true, "270b18df92f08d9dbfae6a5b2b804929d1cf77db2a68199ea461af537b22e4de"), looks := false }, kinds := [], alts := [], laidByText := true, laidKinds := [.data, .data, .data], laidTests := true, laidLooks := .later }
def UtfTellsCardSaid : Prop := Claim7.holds Tryd.pinned (.plain (OpenSpec.ofChange utfTellsSpec)) utfTellsCard

/-- THE TIED CARD OF 'polyglotlaw1.UtfBack'. -/
def utfBackCard : Claim7 := { stood := { row := utfBackRow, standIns := [], harness := (true, "270b18df92f08d9dbfae6a5b2b804929d1cf77db2a68199ea461af537b22e4de"), looks := false }, kinds := [], alts := [], laidByText := true, laidKinds := [.data, .data, .data], laidTests := true, laidLooks := .later }
def UtfBackCardSaid : Prop := Claim7.holds Tryd.pinned (.plain (OpenSpec.ofChange utfBackSpec)) utfBackCard

/-- THE TIED CARD OF 'polyglotlaw1.UtfFar'. -/
def utfFarCard : Claim7 := { stood := { row := utfFarRow, standIns := [], harness := (true, "270b18df92f08d9dbfae6a5b2b804929d1cf77db2a68199ea461af537b22e4de"), looks := false }, kinds := [], alts := [], laidByText := true, laidKinds := [.data, .data, .data], laidTests := true, laidLooks := .later }
def UtfFarCardSaid : Prop := Claim7.holds Tryd.pinned (.plain (OpenSpec.ofChange utfFarSpec)) utfFarCard

/-- THE TIED CARD OF 'polyglotlaw1.UtfJoins'. -/
def utfJoinsCard : Claim7 := { stood := { row := utfJoinsRow, standIns := [], harness := (true, "270b18df92f08d9dbfae6a5b2b804929d1cf77db2a68199ea461af537b22e4de"), looks := false }, kinds := [], alts := [], laidByText := true, laidKinds := [.data, .data, .data], laidTests := true, laidLooks := .later }
def UtfJoinsCardSaid : Prop := Claim7.holds Tryd.pinned (.plain (OpenSpec.ofChange utfJoinsSpec)) utfJoinsCard

/-- THE TIED CARD OF 'polyglotlaw1.UtfWalks'. -/
def utfWalksCard : Claim7 := { stood := { row := utfWalksRow, standIns := [], harness := (true, "270b18df92f08d9dbfae6a5b2b804929d1cf77db2a68199ea461af537b22e4de"), looks := false }, kinds := [], alts := [], laidByText := true, laidKinds := [.data, .data, .data], laidTests := true, laidLooks := .later }
def UtfWalksCardSaid : Prop := Claim7.holds Tryd.pinned (.plain (OpenSpec.ofChange utfWalksSpec)) utfWalksCard

/-- THE SECOND FORM's CARD OF 'polyglotlaw1.UtfTells'. -/
def utfTellsUptoCard : Claim7 := { stood := { row := utfTellsUptoRow, standIns := [], harness := (true, "270b18df92f08d9dbfae6a5b2b804929d1cf77db2a68199ea461af537b22e4de"), looks := false }, kinds := [], alts := [], laidByText := true, laidKinds := [.data, .data, .data], laidTests := true, laidLooks := .later }
def UtfTellsUptoCardSaid : Prop := Claim7.holds Tryd.pinned (.plain (OpenSpec.upto utfTellsSpec)) utfTellsUptoCard

/-- THE SECOND FORM's CARD OF 'polyglotlaw1.UtfBack'. -/
def utfBackUptoCard : Claim7 := { stood := { row := utfBackUptoRow, standIns := [], harness := (true, "270b18df92f08d9dbfae6a5b2b804929d1cf77db2a68199ea461af537b22e4de"), looks := false }, kinds := [], alts := [], laidByText := true, laidKinds := [.data, .data, .data], laidTests := true, laidLooks := .later }
def UtfBackUptoCardSaid : Prop := Claim7.holds Tryd.pinned (.plain (OpenSpec.upto utfBackSpec)) utfBackUptoCard

/-- THE SECOND FORM's CARD OF 'polyglotlaw1.UtfFar'. -/
def utfFarUptoCard : Claim7 := { stood := { row := utfFarUptoRow, standIns := [], harness := (true, "270b18df92f08d9dbfae6a5b2b804929d1cf77db2a68199ea461af537b22e4de"), looks := false }, kinds := [], alts := [], laidByText := true, laidKinds := [.data, .data, .data], laidTests := true, laidLooks := .later }
def UtfFarUptoCardSaid : Prop := Claim7.holds Tryd.pinned (.plain (OpenSpec.upto utfFarSpec)) utfFarUptoCard

/-- THE SECOND FORM's CARD OF 'polyglotlaw1.UtfJoins'. -/
def utfJoinsUptoCard : Claim7 := { stood := { row := utfJoinsUptoRow, standIns := [], harness := (true, "270b18df92f08d9dbfae6a5b2b804929d1cf77db2a68199ea461af537b22e4de"), looks := false }, kinds := [], alts := [], laidByText := true, laidKinds := [.data, .data, .data], laidTests := true, laidLooks := .later }
def UtfJoinsUptoCardSaid : Prop := Claim7.holds Tryd.pinned (.plain (OpenSpec.upto utfJoinsSpec)) utfJoinsUptoCard

/-- THE SECOND FORM's CARD OF 'polyglotlaw1.UtfWalks'. -/
def utfWalksUptoCard : Claim7 := { stood := { row := utfWalksUptoRow, standIns := [], harness := (true, "270b18df92f08d9dbfae6a5b2b804929d1cf77db2a68199ea461af537b22e4de"), looks := false }, kinds := [], alts := [], laidByText := true, laidKinds := [.data, .data, .data], laidTests := true, laidLooks := .later }
def UtfWalksUptoCardSaid : Prop := Claim7.holds Tryd.pinned (.plain (OpenSpec.upto utfWalksSpec)) utfWalksUptoCard
end Rows
end Go.Proofs.YtobaclonacpoeaaDoor
