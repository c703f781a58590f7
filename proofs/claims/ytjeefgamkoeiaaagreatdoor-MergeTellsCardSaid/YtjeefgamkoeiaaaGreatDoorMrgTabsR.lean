/- What the rows' lists give at the laws of batches (stage 10). -/
import Derived.Test.YtjeefgamkoeiaaaGreatDoorPtTabs
set_option linter.unusedVariables false
set_option linter.unusedSimpArgs false
namespace Go.Proofs.YtjeefgamkoeiaaaGreatDoor
open Go.RowKit

theorem ShPl_of {W : World} (h : laidMetH Tryz.prog Rows.mergeKindsRow.laid W) : ShPl W := by
  rw [MakeChecks.laidMetH_plain _ _ _ (by kernel_rfl)] at h
  exact ShPl_met h (by simp [Rows.mergeKindsRow]) (by simp [Rows.mergeKindsRow])

end Go.Proofs.YtjeefgamkoeiaaaGreatDoor
