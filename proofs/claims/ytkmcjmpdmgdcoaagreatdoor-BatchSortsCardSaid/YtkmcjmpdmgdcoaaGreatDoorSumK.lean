/- The walk of the laws' known answers. -/
import Derived.Test.YtkmcjmpdmgdcoaaGreatDoorSumJ
import Derived.Test.YtkmcjmpdmgdcoaaGreatDoorSumW
import Derived.Test.YtkmcjmpdmgdcoaaGreatDoorSumY
import Derived.Deep.DeepCutAuto
set_option linter.unusedVariables false
set_option linter.unusedSimpArgs false
namespace Go.Proofs.YtkmcjmpdmgdcoaaGreatDoor
open Go.RowKit Dc
attribute [local go_sem ↓] Go.wp_at_zero Go.wp_at_succ

theorem scaled_of (m s k : Int) (w : World) (o : Option Int) (h : scaledO m s k = o) (a : -9223372036854775808 ≤ m) (b : m ≤ 9223372036854775807) :
    Calls Tryz.prog 138 #[dv2 m s, .int .i64 k] w fun e w' => e = .returned (scaledV o) ∧ Below w.heap.size w w' := by
  rw [← h]; exact scaled_walk m s k w a b
theorem cmp_of (m s n t : Int) (w : World) (o : Int) (h : cmpO m s n t = o) (a : -9223372036854775808 ≤ m) (b : m ≤ 9223372036854775807) (c : -9223372036854775808 ≤ n) (d : n ≤ 9223372036854775807) :
    Calls Tryz.prog 85 #[dv2 m s, dv2 n t] w fun e w' => e = .returned (.int .i64 o) ∧ Below w.heap.size w w' := by
  rw [← h]; exact compare_walk m s n t w a b c d
theorem row0 (w : World) : DcRow w (.slice none 0 0) [] := ⟨none, 0, rfl, Nat.le_refl _, by unfold maxLen; omega, fun h => absurd h (by simp)⟩
theorem row3 (w : World) : DcRow (w.alloc (.cells #[.int .i64 15, .int .i64 1, .int .i64 (-25), .int .i64 2, .int .i64 1, .int .i64 0] 44)) (.slice (some ⟨w.heap.size, 0, none⟩) 3 3) [(15, 1), (-25, 2), (1, 0)] := by
  refine ⟨_, 3, rfl, Nat.le_refl _, by unfold maxLen; omega, fun _ => ⟨_, 0, rfl, by simp, fun i p hp => ?_⟩⟩
  match i, hp with
  | 0, hp => simp at hp; subst hp; exact ⟨by simp [go_sem], by simp [go_sem]⟩
  | 1, hp => simp at hp; subst hp; exact ⟨by simp [go_sem], by simp [go_sem]⟩
  | 2, hp => simp at hp; subst hp; exact ⟨by simp [go_sem], by simp [go_sem]⟩
  | i + 3, hp => simp at hp

end Go.Proofs.YtkmcjmpdmgdcoaaGreatDoor
