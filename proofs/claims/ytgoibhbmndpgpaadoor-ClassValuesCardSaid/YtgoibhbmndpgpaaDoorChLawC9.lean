/- Bytes as texts, for the law CharsetBytes. -/
import Derived.Test.YtgoibhbmndpgpaaDoorChW
import Derived.Laws.BytesArg
set_option maxRecDepth 100000
set_option linter.unusedVariables false
set_option linter.unusedSimpArgs false
namespace Go.Proofs.YtgoibhbmndpgpaaDoor
open Go.RowKit

theorem chconv1 {W : World} {b : Nat} {x : Int} (h : W.cell? ⟨b, 0, none⟩ = some (.int .u8 x)) :
    (convert 47 9 (.slice (some ⟨b, 0, none⟩) 1 1)).run Tryd.prog W = .ok (.string (strOfNums [x])) W := by
  refine run_convert_bytes_arg _ 47 5 Tryd.underlying47 Tryd.underlying5 _ 0 1 1 _ rfl (fun i hi => ?_) 9 Tryd.underlying9
  obtain rfl : i = 0 := by omega
  exact h
end Go.Proofs.YtgoibhbmndpgpaaDoor
