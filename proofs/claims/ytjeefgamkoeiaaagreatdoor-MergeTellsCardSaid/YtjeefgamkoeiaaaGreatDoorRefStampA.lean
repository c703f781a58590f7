/- The reference's times: IsTime, Seconds, Time, Ms, Of. -/
import Derived.Test.YtjeefgamkoeiaaaGreatDoorDecP
import Derived.Test.YtjeefgamkoeiaaaGreatDoorStampW
import Derived.Test.YtjeefgamkoeiaaaGreatDoorRefSumW
import Derived.Test.YtjeefgamkoeiaaaGreatDoorSumJ
import Derived.Test.YtjeefgamkoeiaaaGreatDoorRefDecW
import Derived.OwnWalk
import Derived.Deep.DeepCutAuto
import Derived.Deep.DrawnRows
import Derived.Deep.RegionHeld3
import Derived.Laws.BytesArg
import Derived.Laws.Strings3
import Derived.Lib.Strings
set_option maxRecDepth 100000
set_option linter.unusedVariables false
set_option linter.unusedSimpArgs false
namespace Go.Proofs.YtjeefgamkoeiaaaGreatDoor
open Go.RowKit Dc

set_option maxHeartbeats 2000000 in
theorem risTime_calls (x : Int) (w : World) :
    Calls Tryz.prog 88 #[.int .i64 x] w fun e w' => e = .returned (.bool (isT x)) ∧ w = w' := by
  by_cases h1 : -1125899906842624 ≤ x
  · by_cases h2 : x ≤ 1125899906842624
    · have e : isT x = true := (isT_iff x).2 ⟨h1, h2⟩
      rw [e]; clear e
      go_enter Tryz.func88, Tryz.ntmps88
      go_wp2
      go_ret
      exact ⟨rfl, rfl⟩
    · have e : isT x = false := by unfold isT; simp; omega
      rw [e]; clear e
      go_enter Tryz.func88, Tryz.ntmps88
      go_wp2
      go_ret
      exact ⟨rfl, rfl⟩
  · have e : isT x = false := by unfold isT; simp; omega
    rw [e]; clear e
    go_enter Tryz.func88, Tryz.ntmps88
    go_wp2
    go_ret
    exact ⟨rfl, rfl⟩

end Go.Proofs.YtjeefgamkoeiaaaGreatDoor
