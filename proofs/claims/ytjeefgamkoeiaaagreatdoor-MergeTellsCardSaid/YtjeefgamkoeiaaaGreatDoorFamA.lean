/- The walks of package family's small functions: isKind, Typed, Kind, suffix, Series. -/
import Derived.Test.YtjeefgamkoeiaaaGreatDoorFamRow
import Derived.Test.YtjeefgamkoeiaaaGreatDoorPointW
set_option maxRecDepth 100000
set_option linter.unusedVariables false
set_option linter.unusedSimpArgs false
namespace Go.Proofs.YtjeefgamkoeiaaaGreatDoor
open Go.RowKit Dc
attribute [local go_sem ↓] Go.wp_at_zero Go.wp_at_succ

theorem iskind_calls (k : Int) (w : World) : Calls Tryz.prog 50 #[.int .i64 k] w fun e w' => e = .returned (.bool (kindOk k)) ∧ w = w' := by
  unfold kindOk
  by_cases h0 : 0 ≤ k
  · have d0 : decide ((0 : Int) ≤ k) = true := decide_eq_true h0
    by_cases h1 : k < 5
    · have d1 : decide (k < 5) = true := decide_eq_true h1
      have hr := Lib.hid (decide_eq_true (show 0 ≤ k ∧ k < 5 from ⟨h0, h1⟩))
      rw [hr.out]
      clear hr
      go_enter Tryz.func50, Tryz.ntmps50
      go_wp2
      go_ret
      exact ⟨rfl, rfl⟩
    · have d1 : decide (k < 5) = false := decide_eq_false h1
      have hr := Lib.hid (decide_eq_false (fun h : 0 ≤ k ∧ k < 5 => h1 h.2))
      rw [hr.out]
      clear hr
      go_enter Tryz.func50, Tryz.ntmps50
      go_wp2
      go_ret
      exact ⟨rfl, rfl⟩
  · have d0 : decide ((0 : Int) ≤ k) = false := decide_eq_false h0
    have hr := Lib.hid (decide_eq_false (fun h : 0 ≤ k ∧ k < 5 => h0 h.1))
    rw [hr.out]
    clear hr
    go_enter Tryz.func50, Tryz.ntmps50
    go_wp2
    go_ret
    exact ⟨rfl, rfl⟩

end Go.Proofs.YtjeefgamkoeiaaaGreatDoor
