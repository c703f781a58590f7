/- NO DRAW IS TAKEN BACK: along every run of the machine the number of draws grows; a call that makes memory alone leaves a world that is the old one with draws and blocks behind it. -/
import Derived.Calls
import Derived.Below
import Derived.Deep.Draws
import Derived.Sort.Grow
set_option maxRecDepth 100000
set_option linter.unusedVariables false
set_option linter.unusedSimpArgs false
namespace Go.Proofs.YtgoibhbmndpgpaaGreatDoor.Up
open Go Go.Sort

/-- no draw is taken back -/
def Result.up {α : Type} (w : World) : Result α → Prop
  | .ok _ w' => w.drawn ≤ w'.drawn
  | .halt _ w' => w.drawn ≤ w'.drawn

end Go.Proofs.YtgoibhbmndpgpaaGreatDoor.Up
