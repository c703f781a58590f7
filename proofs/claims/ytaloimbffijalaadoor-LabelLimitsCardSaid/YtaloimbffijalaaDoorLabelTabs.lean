/- What the rows' lists give: utf's table of shapes. -/
import Derived.Test.YtaloimbffijalaaDoorUtfB
import Derived.Test.YtaloimbffijalaaDoorCells
import Derived.Test.YtaloimbffijalaaDoorRows
import Derived.ProofKit
import Derived.LaidMore
import Derived.MakeChecks
set_option maxRecDepth 100000
set_option linter.unusedVariables false
set_option linter.unusedSimpArgs false
namespace Go.Proofs.YtaloimbffijalaaDoor
open Go.RowKit

theorem ShapesIn_of {W : World} (h : laidMetH Tryd.prog Rows.labelTellsRow.laid W) : ShapesIn W := by
  rw [MakeChecks.laidMetH_plain _ _ _ (by kernel_rfl)] at h
  exact Plain.laid_block (k := 6) (name := "polyglot/utf.shapes") (d := Rows.laid_polyglot_utf_shapes) (g := 0) (t := 75) h (by simp [Rows.labelTellsRow]) (by kernel_rfl) (by kernel_rfl) (by kernel_rfl)

end Go.Proofs.YtaloimbffijalaaDoor
