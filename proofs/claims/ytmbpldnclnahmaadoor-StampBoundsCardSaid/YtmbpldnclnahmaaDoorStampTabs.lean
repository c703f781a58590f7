/- What the rows' lists give: the table of units. -/
import Derived.Test.YtmbpldnclnahmaaDoorStampA
import Derived.Test.YtmbpldnclnahmaaDoorCells
import Derived.Test.YtmbpldnclnahmaaDoorRows
import Derived.ProofKit
import Derived.LaidMore
import Derived.MakeChecks
set_option maxRecDepth 100000
set_option linter.unusedVariables false
set_option linter.unusedSimpArgs false
namespace Go.Proofs.YtmbpldnclnahmaaDoor
open Go.RowKit

theorem Pl_of {W : World} (h : laidMetH Tryd.prog Rows.stampTellsRow.laid W) : Pl W := by
  rw [MakeChecks.laidMetH_plain _ _ _ (by kernel_rfl)] at h
  obtain ⟨u, fr, hb⟩ := Plain.laid_block (k := 4) (name := "polyglot/stamp.places") (d := Rows.laid_polyglot_stamp_places) (g := 0) (t := 49) h (by simp [Rows.stampTellsRow]) (by kernel_rfl) (by kernel_rfl) (by kernel_rfl)
  refine ⟨fun i hi => ?_, (Array.getElem?_eq_some_iff.1 hb).1⟩
  rw [Lib.cell_of_heap hb]
  match i, hi with
  | 0, _ => rfl
  | 1, _ => rfl
  | 2, _ => rfl
  | 3, _ => rfl

end Go.Proofs.YtmbpldnclnahmaaDoor
