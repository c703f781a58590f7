/- Bytes as texts, for the law CharsetBytes. -/
import Derived.Test.YtaljohmiiigecaaDoorChK
import Derived.Laws.BytesArg
set_option maxRecDepth 100000
set_option linter.unusedVariables false
set_option linter.unusedSimpArgs false
namespace Go.Proofs.YtaljohmiiigecaaDoor
open Go.RowKit

theorem chconv1 {W : World} {b : Nat} {x : Int} (h : W.cell? ⟨b, 0, none⟩ = some (.int .u8 x)) :
    (convert 27 9 (.slice (some ⟨b, 0, none⟩) 1 1)).run Tryd.prog W = .ok (.string (strOfNums [x])) W := by
  refine run_convert_bytes_arg _ 27 5 Tryd.underlying27 Tryd.underlying5 _ 0 1 1 _ rfl (fun i hi => ?_) 9 Tryd.underlying9
  obtain rfl : i = 0 := by omega
  exact h
theorem chconv3 {W : World} {b : Nat} {x y z : Int} (h0 : W.cell? ⟨b, 0, none⟩ = some (.int .u8 x)) (h1 : W.cell? ⟨b, 1, none⟩ = some (.int .u8 y)) (h2 : W.cell? ⟨b, 2, none⟩ = some (.int .u8 z)) :
    (convert 27 9 (.slice (some ⟨b, 0, none⟩) 3 3)).run Tryd.prog W = .ok (.string (strOfNums [x, y, z])) W := by
  refine run_convert_bytes_arg _ 27 5 Tryd.underlying27 Tryd.underlying5 _ 0 3 3 _ rfl (fun i hi => ?_) 9 Tryd.underlying9
  match i, hi with
  | 0, _ => exact h0
  | 1, _ => exact h1
  | 2, _ => exact h2

end Go.Proofs.YtaljohmiiigecaaDoor
