/- The texts RefSrtB, one behind the other. -/
import Derived.Test.YtbapneipjmpcbaaGreatDoorMrgR
import Derived.Test.YtbapneipjmpcbaaGreatDoorLegP

/- The walk of the reference's SortFams, of any families. -/
set_option maxRecDepth 100000
set_option linter.unusedVariables false
set_option linter.unusedSimpArgs false
namespace Go.Proofs.YtbapneipjmpcbaaGreatDoor
open Go.RowKit Go.Sort Dc
attribute [local go_sem ↓] Go.wp_at_zero Go.wp_at_succ

theorem srtG_is {h : Hd} {l d : List Pt} (hd : psrt l = some d) : Lg.srtG (h, l) = (h, d) := by unfold Lg.srtG; rw [hd]; rfl
end Go.Proofs.YtbapneipjmpcbaaGreatDoor
