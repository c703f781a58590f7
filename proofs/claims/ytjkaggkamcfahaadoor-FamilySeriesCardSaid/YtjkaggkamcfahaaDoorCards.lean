/-
  DERIVED. GIVEN WITH THE SEED: THE CARDS: each row of YtjkaggkamcfahaaDoorRows.lean that lists a variable, with what it lists TIED to the program's text (the seventh form; the later family's looks); each row that meets fmt, with fmt's text TOLD by the authors' own Lean function (tested against real Go, not proved from fmt's source: count such statements apart). THE CARD IS WHAT COUNTS. Prove the row's statement (the work); the ties are given (YtjkaggkamcfahaaDoorTie.lean); close each card by the builder's one call (the guide's Derived/Test/ToyasCard.lean, 'card_holds'). Laid BY PROGRAM, IN A SANDBOX (cutbox-door.mjs). By AI agents, Wed Nov 11 2026. No macro, syntax, notation, axiom, sorry.
-/
import Derived.Test.YtjkaggkamcfahaaDoorRows
import GoSem.ClaimSeven
namespace Go.Proofs.YtjkaggkamcfahaaDoor
namespace Rows

/-- THE TIED CARD OF 'polyglotlaw9.FamilySorts'. -/
def familySortsCard : Claim7 := { stood := { row := familySortsRow, standIns := [], harness := (true, "80b5a05d057d961ba4b33ddbf0a3fd4f5f8281fe3a6767bc8b50b4147bece8f9"), looks := false }, kinds := [], alts := [], laidByText := true, laidKinds := [.data, .data, .data], laidTests := true, laidLooks := .later }
def FamilySortsCardSaid : Prop := Claim7.holds Tryd.pinned (.plain (OpenSpec.ofChange familySortsSpec)) familySortsCard

/-- THE TIED CARD OF 'polyglotlaw9.FamilySeries'. -/
def familySeriesCard : Claim7 := { stood := { row := familySeriesRow, standIns := [], harness := (true, "80b5a05d057d961ba4b33ddbf0a3fd4f5f8281fe3a6767bc8b50b4147bece8f9"), looks := false }, kinds := [], alts := [], laidByText := true, laidKinds := [.data, .data, .data], laidTests := true, laidLooks := .later }
def FamilySeriesCardSaid : Prop := Claim7.holds Tryd.pinned (.plain (OpenSpec.ofChange familySeriesSpec)) familySeriesCard

/-- THE TIED CARD OF 'polyglotlaw9.FamilyKinds'. -/
def familyKindsCard : Claim7 := { stood := { row := familyKindsRow, standIns := [], harness := (true, "80b5a05d057d961ba4b33ddbf0a3fd4f5f8281fe3a6767bc8b50b4147bece8f9"), looks := false }, kinds := [], alts := [], laidByText := true, laidKinds := [.data, .data, .data], laidTests := true, laidLooks := .later }
def FamilyKindsCardSaid : Prop := Claim7.holds Tryd.pinned (.plain (OpenSpec.ofChange familyKindsSpec)) familyKindsCard

/-- THE TIED CARD OF 'polyglotlaw9.FamilyHeads'. -/
def familyHeadsCard : Claim7 := { stood := { row := familyHeadsRow, standIns := [], harness := (true, "80b5a05d057d961ba4b33ddbf0a3fd4f5f8281fe3a6767bc8b50b4147bece8f9"), looks := false }, kinds := [], alts := [], laidByText := true, laidKinds := [.data, .data, .data], laidTests := true, laidLooks := .later }
def FamilyHeadsCardSaid : Prop := Claim7.holds Tryd.pinned (.plain (OpenSpec.ofChange familyHeadsSpec)) familyHeadsCard

/-- THE SECOND FORM's CARD OF 'polyglotlaw9.FamilySorts'. -/
def familySortsUptoCard : Claim7 := { stood := { row := familySortsUptoRow, standIns := [], harness := (true, "80b5a05d057d961ba4b33ddbf0a3fd4f5f8281fe3a6767bc8b50b4147bece8f9"), looks := false }, kinds := [], alts := [], laidByText := true, laidKinds := [.data, .data, .data], laidTests := true, laidLooks := .later }
def FamilySortsUptoCardSaid : Prop := Claim7.holds Tryd.pinned (.plain (OpenSpec.upto familySortsSpec)) familySortsUptoCard

/-- THE SECOND FORM's CARD OF 'polyglotlaw9.FamilySeries'. -/
def familySeriesUptoCard : Claim7 := { stood := { row := familySeriesUptoRow, standIns := [], harness := (true, "80b5a05d057d961ba4b33ddbf0a3fd4f5f8281fe3a6767bc8b50b4147bece8f9"), looks := false }, kinds := [], alts := [], laidByText := true, laidKinds := [.data, .data, .data], laidTests := true, laidLooks := .later }
def FamilySeriesUptoCardSaid : Prop := Claim7.holds Tryd.pinned (.plain (OpenSpec.upto familySeriesSpec)) familySeriesUptoCard

/-- THE SECOND FORM's CARD OF 'polyglotlaw9.FamilyKinds'. -/
def familyKindsUptoCard : Claim7 := { stood := { row := familyKindsUptoRow, standIns := [], harness := (true, "80b5a05d057d961ba4b33ddbf0a3fd4f5f8281fe3a6767bc8b50b4147bece8f9"), looks := false }, kinds := [], alts := [], laidByText := true, laidKinds := [.data, .data, .data], laidTests := true, laidLooks := .later }
def FamilyKindsUptoCardSaid : Prop := Claim7.holds Tryd.pinned (.plain (OpenSpec.upto familyKindsSpec)) familyKindsUptoCard

/-- THE SECOND FORM's CARD OF 'polyglotlaw9.FamilyHeads'. -/
def familyHeadsUptoCard : Claim7 := { stood := { row := familyHeadsUptoRow, standIns := [], harness := (true, "80b5a05d057d961ba4b33ddbf0a3fd4f5f8281fe3a6767bc8b50b4147bece8f9"), looks := false }, kinds := [], alts := [], laidByText := true, laidKinds := [.data, .data, .data], laidTests := true, laidLooks := .later }
def FamilyHeadsUptoCardSaid : Prop := Claim7.holds Tryd.pinned (.plain (OpenSpec.upto familyHeadsSpec)) familyHeadsUptoCard
end Rows
end Go.Proofs.YtjkaggkamcfahaaDoor
