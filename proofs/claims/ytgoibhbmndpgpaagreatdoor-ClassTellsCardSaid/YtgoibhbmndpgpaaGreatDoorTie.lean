/-
  DERIVED. GIVEN WITH THE SEED: THE PROGRAM's TIES (one call each: nine closed facts by the kernel) AND EACH ROW's TIE, after the 31st guide's Derived/Test/Toyas{Tie, Card}.lean. No idea stands in it: it is a product of the set-up. Laid BY PROGRAM, IN A SANDBOX (cutbox-door.mjs). By AI agents, Wed Nov 11 2026. No macro, syntax, notation, axiom, sorry.
-/
import Derived.Test.YtgoibhbmndpgpaaGreatDoorRows
import Derived.LaidByTextLater
import Derived.SevenTiedAt
import Derived.LaidSub
import Derived.LaidOnce
namespace Go.Proofs.YtgoibhbmndpgpaaGreatDoor
open Go
set_option maxRecDepth 100000
theorem seatTie1 : Tryz.prog.laidByTextLater [("polyglot/charset.spans", Rows.laid_polyglot_charset_spans), ("polyglot/charset.sets", Rows.laid_polyglot_charset_sets), ("polyglot/utf.shapes", Rows.laid_polyglot_utf_shapes), ("polyglot/stamp.places", Rows.laid_polyglot_stamp_places)] [.data, .data, .data, .data] true :=
  Program.laidByTextLater_by_one 94 8 82 (by kernel_rfl) (by kernel_rfl) (by kernel_rfl) (by kernel_rfl) (by kernel_rfl) (by kernel_rfl) (fun _ _ => by kernel_rfl)
theorem noOwnUnsafe : Tryz.pinned.checked.prog.headLifts.contains "ownunsafe" = false := by kernel_rfl
theorem tie : Tryz.prog.laidByTextLater [("polyglot/charset.spans", Rows.laid_polyglot_charset_spans), ("polyglot/charset.sets", Rows.laid_polyglot_charset_sets), ("polyglot/utf.shapes", Rows.laid_polyglot_utf_shapes), ("polyglot/stamp.places", Rows.laid_polyglot_stamp_places)] [.data, .data, .data, .data] true :=
  Program.laidByTextLater.sub seatTie1 ["polyglot/charset.spans", "polyglot/charset.sets", "polyglot/utf.shapes", "polyglot/stamp.places"] (by kernel_rfl) (by kernel_rfl)
theorem classTells_row_tie : Rows.classTellsRow.laidByTextAt .later Tryz.pinned [.data, .data, .data, .data] true :=
  OpenClaim.laidByTextAt_later rfl rfl tie noOwnUnsafe
theorem classWhole_row_tie : Rows.classWholeRow.laidByTextAt .later Tryz.pinned [.data, .data, .data, .data] true :=
  OpenClaim.laidByTextAt_later rfl rfl tie noOwnUnsafe
theorem classTellsUpto_row_tie : Rows.classTellsUptoRow.laidByTextAt .later Tryz.pinned [.data, .data, .data, .data] true :=
  OpenClaim.laidByTextAt_later rfl rfl tie noOwnUnsafe
theorem classWholeUpto_row_tie : Rows.classWholeUptoRow.laidByTextAt .later Tryz.pinned [.data, .data, .data, .data] true :=
  OpenClaim.laidByTextAt_later rfl rfl tie noOwnUnsafe
end Go.Proofs.YtgoibhbmndpgpaaGreatDoor
