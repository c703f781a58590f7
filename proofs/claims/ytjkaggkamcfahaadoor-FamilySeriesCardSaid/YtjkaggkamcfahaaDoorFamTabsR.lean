/- What the rows' lists give at the laws of families (stage 9). -/
import Derived.Test.YtjkaggkamcfahaaDoorFamTabs
set_option linter.unusedVariables false
set_option linter.unusedSimpArgs false
namespace Go.Proofs.YtjkaggkamcfahaaDoor
open Go.RowKit

theorem FamT_of {W : World} (h : laidMetH Tryd.prog Rows.familySortsRow.laid W) : FamT W := by
  rw [MakeChecks.laidMetH_plain _ _ _ (by kernel_rfl)] at h
  exact FamT_met h (by simp [Rows.familySortsRow]) (by simp [Rows.familySortsRow]) (by simp [Rows.familySortsRow])

end Go.Proofs.YtjkaggkamcfahaaDoor
