/- What the rows' lists give at the laws of stage 12. -/
import Derived.Test.YtaljohmiiigecaaDoorChTabs
set_option linter.unusedVariables false
set_option linter.unusedSimpArgs false
namespace Go.Proofs.YtaljohmiiigecaaDoor
open Go.RowKit

theorem ChT_of {W : World} (h : laidMetH Tryd.prog Rows.charsetTellsRow.laid W) : ChT W := by
  rw [MakeChecks.laidMetH_plain _ _ _ (by kernel_rfl)] at h
  exact ChT_met h (by simp [Rows.charsetTellsRow]) (by simp [Rows.charsetTellsRow])

end Go.Proofs.YtaljohmiiigecaaDoor
