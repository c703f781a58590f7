/- What the rows' lists give at the laws of stage 14. -/
import Derived.Test.YtgdhfmcipaoapaaDoorChTabs
set_option linter.unusedVariables false
set_option linter.unusedSimpArgs false
namespace Go.Proofs.YtgdhfmcipaoapaaDoor
open Go.RowKit

theorem LsT_of {W : World} (h : laidMetH Tryd.prog Rows.lossyTellsRow.laid W) : ChT W := by
  rw [MakeChecks.laidMetH_plain _ _ _ (by kernel_rfl)] at h
  exact ChT_met h (by simp [Rows.lossyTellsRow]) (by simp [Rows.lossyTellsRow])

end Go.Proofs.YtgdhfmcipaoapaaDoor
