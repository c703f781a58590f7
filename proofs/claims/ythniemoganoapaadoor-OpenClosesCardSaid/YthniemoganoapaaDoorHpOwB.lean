/- The walk of polyglothelp.Bad at the open format (layer 17). -/
import Derived.Test.YthniemoganoapaaDoorRefOwN
set_option maxRecDepth 100000
set_option linter.unusedVariables false
set_option linter.unusedSimpArgs false
namespace Go.Proofs.YthniemoganoapaaDoor
open Go.RowKit
attribute [local go_sem ↓] Go.wp_at_zero Go.wp_at_succ

set_option maxHeartbeats 4000000 in
theorem hbad_calls (s : List UInt8) (w : World) (hs : s.length ≤ 1900) :
    Calls Tryd.prog 27 #[.int .i64 1, .string (str s)] w fun e w' => e = .returned (.int .i64 (Ow.bad s)) ∧ Below w.heap.size w w' := by
  have hC := rrows_calls s w hs
  unfold RRowsP at hC
  generalize Ow.bad s = B at *
  go_enter Tryd.func27, Tryd.ntmps27
  go_wp2_with fail
  refine hC.mono ?_; rintro e w1 ⟨A, n, cap, L, rfl, b1, -, -, -⟩
  go_wp2
  go_ret
  exact ⟨rfl, b1⟩

end Go.Proofs.YthniemoganoapaaDoor
