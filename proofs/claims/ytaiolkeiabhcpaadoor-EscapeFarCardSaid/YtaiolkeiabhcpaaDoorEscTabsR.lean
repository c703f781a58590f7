/- What the rows' lists give at the laws of stage 13, and what every world gives of the variable that is not listed. -/
import Derived.Test.YtaiolkeiabhcpaaDoorChTabs
import Derived.Test.YtaiolkeiabhcpaaDoorEscB
import Derived.Shelf.Vars
set_option maxRecDepth 100000
set_option linter.unusedVariables false
set_option linter.unusedSimpArgs false
namespace Go.Proofs.YtaiolkeiabhcpaaDoor
open Go.RowKit

theorem EscT_of {W : World} (h : laidMetH Tryd.prog Rows.escapeTellsRow.laid W) : ChT W := by
  rw [MakeChecks.laidMetH_plain _ _ _ (by kernel_rfl)] at h
  exact ChT_met h (by simp [Rows.escapeTellsRow]) (by simp [Rows.escapeTellsRow])
theorem MxT_of {W : World} (h : W.ShapedOpen Tryd.prog) : MxT W := by
  have hc := cell_of_shapedOpen_int (g := 2) (zero := #[.int .i64 0]) (t := 3) h (of_decide_eq_true (by kernel_rfl)) (by kernel_rfl) rfl (by kernel_rfl) (by kernel_rfl) Tryd.underlying3
  obtain ⟨m, hm⟩ := hc
  refine ⟨⟨m, hm⟩, ?_⟩
  unfold World.cell? at hm
  split at hm
  · rename_i hh; exact (Array.getElem?_eq_some_iff.1 hh).1
  · cases hm

end Go.Proofs.YtaiolkeiabhcpaaDoor
