/-
  DERIVED. GIVEN WITH THE SEED: THE PROGRAM's TIES (one call each: nine closed facts by the kernel) AND EACH ROW's TIE, after the 31st guide's Derived/Test/Toyas{Tie, Card}.lean. No idea stands in it: it is a product of the set-up. Laid BY PROGRAM, IN A SANDBOX (cutbox-door.mjs). By AI agents, Wed Nov 11 2026. No macro, syntax, notation, axiom, sorry.
-/
import Derived.Test.YthniemoganoapaaDoorRows
import Derived.LaidByTextLater
import Derived.SevenTiedAt
import Derived.LaidSub
import Derived.LaidOnce
namespace Go.Proofs.YthniemoganoapaaDoor
open Go
set_option maxRecDepth 100000
theorem seatTie1 : Tryd.prog.laidByTextLater [("polyglot/utf.shapes", Rows.laid_polyglot_utf_shapes), ("polyglot/utf.marks", Rows.laid_polyglot_utf_marks), ("polyglot/openword.classes", Rows.laid_polyglot_openword_classes), ("polyglot/openword.starts", Rows.laid_polyglot_openword_starts)] [.data, .data, .data, .data] true :=
  Program.laidByTextLater_by_one 74 8 124 (by kernel_rfl) (by kernel_rfl) (by kernel_rfl) (by kernel_rfl) (by kernel_rfl) (by kernel_rfl) (fun _ _ => by kernel_rfl)
theorem noOwnUnsafe : Tryd.pinned.checked.prog.headLifts.contains "ownunsafe" = false := by kernel_rfl
theorem tie : Tryd.prog.laidByTextLater [("polyglot/utf.shapes", Rows.laid_polyglot_utf_shapes), ("polyglot/utf.marks", Rows.laid_polyglot_utf_marks), ("polyglot/openword.classes", Rows.laid_polyglot_openword_classes), ("polyglot/openword.starts", Rows.laid_polyglot_openword_starts)] [.data, .data, .data, .data] true :=
  Program.laidByTextLater.sub seatTie1 ["polyglot/utf.shapes", "polyglot/utf.marks", "polyglot/openword.classes", "polyglot/openword.starts"] (by kernel_rfl) (by kernel_rfl)
theorem openTells_row_tie : Rows.openTellsRow.laidByTextAt .later Tryd.pinned [.data, .data, .data, .data] true :=
  OpenClaim.laidByTextAt_later rfl rfl tie noOwnUnsafe
theorem openFar_row_tie : Rows.openFarRow.laidByTextAt .later Tryd.pinned [.data, .data, .data, .data] true :=
  OpenClaim.laidByTextAt_later rfl rfl tie noOwnUnsafe
theorem openCloses_row_tie : Rows.openClosesRow.laidByTextAt .later Tryd.pinned [.data, .data, .data, .data] true :=
  OpenClaim.laidByTextAt_later rfl rfl tie noOwnUnsafe
theorem openQuotes_row_tie : Rows.openQuotesRow.laidByTextAt .later Tryd.pinned [.data, .data, .data, .data] true :=
  OpenClaim.laidByTextAt_later rfl rfl tie noOwnUnsafe
theorem openRows_row_tie : Rows.openRowsRow.laidByTextAt .later Tryd.pinned [.data, .data, .data, .data] true :=
  OpenClaim.laidByTextAt_later rfl rfl tie noOwnUnsafe
theorem openTellsUpto_row_tie : Rows.openTellsUptoRow.laidByTextAt .later Tryd.pinned [.data, .data, .data, .data] true :=
  OpenClaim.laidByTextAt_later rfl rfl tie noOwnUnsafe
theorem openFarUpto_row_tie : Rows.openFarUptoRow.laidByTextAt .later Tryd.pinned [.data, .data, .data, .data] true :=
  OpenClaim.laidByTextAt_later rfl rfl tie noOwnUnsafe
theorem openClosesUpto_row_tie : Rows.openClosesUptoRow.laidByTextAt .later Tryd.pinned [.data, .data, .data, .data] true :=
  OpenClaim.laidByTextAt_later rfl rfl tie noOwnUnsafe
theorem openQuotesUpto_row_tie : Rows.openQuotesUptoRow.laidByTextAt .later Tryd.pinned [.data, .data, .data, .data] true :=
  OpenClaim.laidByTextAt_later rfl rfl tie noOwnUnsafe
theorem openRowsUpto_row_tie : Rows.openRowsUptoRow.laidByTextAt .later Tryd.pinned [.data, .data, .data, .data] true :=
  OpenClaim.laidByTextAt_later rfl rfl tie noOwnUnsafe
end Go.Proofs.YthniemoganoapaaDoor
