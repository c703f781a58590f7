/- The walk of the reference's IsProto. -/
import Derived.Test.YtgoibhbmndpgpaaGreatDoorGrd
set_option maxRecDepth 100000
set_option linter.unusedVariables false
set_option linter.unusedSimpArgs false
namespace Go.Proofs.YtgoibhbmndpgpaaGreatDoor
open Go.RowKit

def protoOk (p : Int) : Bool := decide (1 ≤ p) && decide (p ≤ 4)
theorem riproto_calls (p : Int) (w : World) :
    Calls Tryz.prog 19 #[.int .i64 p] w fun e w' => e = .returned (.bool (protoOk p)) ∧ w = w' := by
  by_cases h1 : 1 ≤ p
  · have d1 : decide ((1 : Int) ≤ p) = true := decide_eq_true h1
    by_cases h2 : p ≤ 4
    · have d2 : decide (p ≤ 4) = true := decide_eq_true h2
      go_enter Tryz.func19, Tryz.ntmps19
      go_wp2
      go_ret
      exact ⟨by unfold protoOk; rw [d1, d2]; rfl, rfl⟩
    · have d2 : decide (p ≤ 4) = false := decide_eq_false h2
      go_enter Tryz.func19, Tryz.ntmps19
      go_wp2
      go_ret
      exact ⟨by unfold protoOk; rw [d1, d2]; rfl, rfl⟩
  · have d1 : decide ((1 : Int) ≤ p) = false := decide_eq_false h1
    go_enter Tryz.func19, Tryz.ntmps19
    go_wp2
    go_ret
    exact ⟨by unfold protoOk; rw [d1]; rfl, rfl⟩

end Go.Proofs.YtgoibhbmndpgpaaGreatDoor
