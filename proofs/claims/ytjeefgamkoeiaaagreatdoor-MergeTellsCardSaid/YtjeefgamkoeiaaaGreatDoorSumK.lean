/- The walk of the laws' known answers. -/
import Derived.Test.YtjeefgamkoeiaaaGreatDoorSumJ
import Derived.Test.YtjeefgamkoeiaaaGreatDoorSumY
import Derived.Deep.DeepCutAuto
set_option linter.unusedVariables false
set_option linter.unusedSimpArgs false
namespace Go.Proofs.YtjeefgamkoeiaaaGreatDoor
open Go.RowKit Dc
attribute [local go_sem ↓] Go.wp_at_zero Go.wp_at_succ

theorem row3 (w : World) : DcRow (w.alloc (.cells #[.int .i64 15, .int .i64 1, .int .i64 (-25), .int .i64 2, .int .i64 1, .int .i64 0] 51)) (.slice (some ⟨w.heap.size, 0, none⟩) 3 3) [(15, 1), (-25, 2), (1, 0)] := by
  refine ⟨_, 3, rfl, Nat.le_refl _, by unfold maxLen; omega, fun _ => ⟨_, 0, rfl, by simp, fun i p hp => ?_⟩⟩
  match i, hp with
  | 0, hp => simp at hp; subst hp; exact ⟨by simp [go_sem], by simp [go_sem]⟩
  | 1, hp => simp at hp; subst hp; exact ⟨by simp [go_sem], by simp [go_sem]⟩
  | 2, hp => simp at hp; subst hp; exact ⟨by simp [go_sem], by simp [go_sem]⟩
  | i + 3, hp => simp at hp

end Go.Proofs.YtjeefgamkoeiaaaGreatDoor
