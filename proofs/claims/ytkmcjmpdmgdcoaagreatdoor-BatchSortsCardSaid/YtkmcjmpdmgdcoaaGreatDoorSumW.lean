/- The walk of package sum's Over. -/
import Derived.Test.YtkmcjmpdmgdcoaaGreatDoorSumJ
import Derived.Deep.DeepCutAuto
set_option linter.unusedVariables false
set_option linter.unusedSimpArgs false
namespace Go.Proofs.YtkmcjmpdmgdcoaaGreatDoor
open Go.RowKit Dc
attribute [local go_sem ↓] Go.wp_at_zero Go.wp_at_succ

theorem magnitude_callsB (m : Int) (w : World) (h1 : m.natAbs ≤ big) :
    Calls Tryz.prog 134 #[.int .i64 m] w fun e w' => e = .returned (.int .u64 (m.natAbs : Nat)) ∧ Below w.heap.size w w' :=
  (magnitude_calls m w h1).mono (by rintro e w' ⟨rfl, rfl⟩; exact ⟨rfl, Below.refl _ _⟩)
theorem overO_zero {m s n t : Int} (h : n = 0) : overO m s n t = none := by unfold overO; rw [if_neg (by intro e; exact e.2.2.1 h)]
theorem overO_rest {m s n t : Int} (h : dvd m s t % n.natAbs ≠ 0) : overO m s n t = none := by unfold overO; rw [if_neg (by intro e; exact h e.2.2.2)]
end Go.Proofs.YtkmcjmpdmgdcoaaGreatDoor
