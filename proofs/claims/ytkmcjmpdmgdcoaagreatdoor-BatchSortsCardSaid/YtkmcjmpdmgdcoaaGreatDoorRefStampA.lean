/- The reference's times: IsTime, Seconds, Time, Ms, Of. -/
import Derived.Test.YtkmcjmpdmgdcoaaGreatDoorDecP
import Derived.Test.YtkmcjmpdmgdcoaaGreatDoorStampW
import Derived.Test.YtkmcjmpdmgdcoaaGreatDoorRefSumW
import Derived.Test.YtkmcjmpdmgdcoaaGreatDoorRefDecW
import Derived.OwnWalk
set_option maxRecDepth 100000
set_option linter.unusedVariables false
set_option linter.unusedSimpArgs false
namespace Go.Proofs.YtkmcjmpdmgdcoaaGreatDoor
open Go.RowKit Dc

set_option maxHeartbeats 2000000 in
theorem risTime_calls (x : Int) (w : World) :
    Calls Tryz.prog 49 #[.int .i64 x] w fun e w' => e = .returned (.bool (isT x)) ∧ w = w' := by
  by_cases h1 : -1125899906842624 ≤ x
  · by_cases h2 : x ≤ 1125899906842624
    · have e : isT x = true := (isT_iff x).2 ⟨h1, h2⟩
      rw [e]; clear e
      go_enter Tryz.func49, Tryz.ntmps49
      go_wp2
      go_ret
      exact ⟨rfl, rfl⟩
    · have e : isT x = false := by unfold isT; simp; omega
      rw [e]; clear e
      go_enter Tryz.func49, Tryz.ntmps49
      go_wp2
      go_ret
      exact ⟨rfl, rfl⟩
  · have e : isT x = false := by unfold isT; simp; omega
    rw [e]; clear e
    go_enter Tryz.func49, Tryz.ntmps49
    go_wp2
    go_ret
    exact ⟨rfl, rfl⟩

theorem rms_out {n u : Int} (h0 : u ≠ 0) (h1 : u ≠ 1) (h2 : u ≠ 2) (h3 : u ≠ 3) : rmsO n u = none := by unfold rmsO; rw [if_neg h0, if_neg h1, if_neg h2, if_neg h3]
theorem rms_0 (n : Int) : rmsO n 0 = timeO (if -1125899906842624 ≤ n ∧ n ≤ 1125899906842624 then some (n * 1000) else none) := rfl
theorem rms_1 (n : Int) : rmsO n 1 = timeO (some n) := rfl
theorem rms_2 (n : Int) : rmsO n 2 = timeO (if n.tmod 1000 = 0 then some (n.tdiv 1000) else none) := rfl
theorem rms_3 (n : Int) : rmsO n 3 = timeO (if n.tmod 1000000 = 0 then some (n.tdiv 1000000) else none) := rfl
theorem timeO_t {t : Int} (h : isT t = true) : timeO (some t) = some t := by unfold timeO; simp [h]
theorem timeO_f {t : Int} (h : isT t = false) : timeO (some t) = none := by unfold timeO; simp [h]
theorem tdiv_b {n d : Int} (hd : 1 ≤ d) (h1 : -9223372036854775808 ≤ n) (h2 : n ≤ 9223372036854775807) : -9223372036854775808 ≤ n.tdiv d ∧ n.tdiv d ≤ 9223372036854775807 := by
  have h := Int.natAbs_tdiv_le_natAbs n d
  by_cases h0 : 0 ≤ n
  · have := Int.tdiv_nonneg h0 (show 0 ≤ d by omega); omega
  · have h3 := Int.tdiv_nonneg (a := -n) (b := d) (by omega) (by omega)
    rw [Int.neg_tdiv] at h3; omega

theorem rof_0 {x : Int} (h : isT x = true) : rofO x 0 = if x.tmod 1000 = 0 then some (x.tdiv 1000) else none := by unfold rofO; rw [if_pos h]; rfl
theorem rof_1 {x : Int} (h : isT x = true) : rofO x 1 = some x := by unfold rofO; rw [if_pos h]; rfl
theorem rof_2 {x : Int} (h : isT x = true) : rofO x 2 = some (x * 1000) := by unfold rofO; rw [if_pos h]; rfl
theorem rof_3 {x : Int} (h : isT x = true) : rofO x 3 = if -9223372036854 ≤ x ∧ x ≤ 9223372036854 then some (x * 1000000) else none := by unfold rofO; rw [if_pos h]; rfl
theorem rof_out {x u : Int} (h0 : u ≠ 0) (h1 : u ≠ 1) (h2 : u ≠ 2) (h3 : u ≠ 3) : rofO x u = none := by unfold rofO; rw [if_neg h0, if_neg h1, if_neg h2, if_neg h3]; split <;> rfl
theorem rof_f {x u : Int} (h : isT x = false) : rofO x u = none := by unfold rofO; rw [h]; rfl
end Go.Proofs.YtkmcjmpdmgdcoaaGreatDoor
