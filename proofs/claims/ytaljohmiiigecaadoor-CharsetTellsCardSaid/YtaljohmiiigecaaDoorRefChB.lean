/- The walks of the reference's Bad, Is (layer 12). -/
import Derived.Test.YtaljohmiiigecaaDoorRefChA
set_option maxRecDepth 100000
set_option linter.unusedVariables false
set_option linter.unusedSimpArgs false
namespace Go.Proofs.YtaljohmiiigecaaDoor
open Go.RowKit

set_option maxHeartbeats 1000000 in
theorem rbadc_calls (p s : Int) (l : List UInt8) (w : World) (hl : l.length ≤ maxLen) :
    Calls Tryd.prog 12 #[.int .i64 p, .int .i64 s, .string (str l)] w fun e w' => e = .returned (.int .i64 (Ch.bad p s l)) ∧ w = w' := by
  have hl' := hl
  unfold maxLen at hl'
  have hsz := str_size l
  go_enter Tryd.func12, Tryd.ntmps12
  go_wp2_with fail
  go_loopw [7] (fun v wr => ∃ k : Nat, k ≤ l.length ∧ Hid (Ch.bad p s l = Ch.badGo p s l (l.length - k) k) ∧ v = .int .i64 (k : Nat) ∧ w = wr) (fun v _ => l.length - (intOf v).toNat)
  case atStart => exact ⟨0, by omega, rfl, rfl, rfl⟩
  case round =>
    obtain ⟨k, hk, H, rfl, rfl⟩ := hrel
    by_cases h : k < l.length
    · have hc := rlegal_calls p s l (k : Int) w hl
      rw [Ch.legI_at] at hc
      have hB := Lib.hid (show Ch.badGo p s l (l.length - k) k = if Ch.leg p s l k then Ch.badGo p s l (l.length - (k + 1)) (k + 1) else (k : Int) by
        rw [show l.length - k = (l.length - (k + 1)) + 1 by omega]; rfl)
      cases hg : Ch.leg p s l k
      · have hr := Lib.hid (show Ch.bad p s l = (k : Int) by rw [H.out, hB.out, hg]; rfl)
        rw [hg] at hc
        go_wp2_with fail
        refine hc.mono ?_; rintro e w1 ⟨rfl, rfl⟩
        go_wp2
        go_ret
        exact ⟨by rw [hr.out]; rfl, rfl⟩
      · have hr := Lib.hid (show Ch.bad p s l = Ch.badGo p s l (l.length - (k + 1)) (k + 1) by rw [H.out, hB.out, hg]; rfl)
        rw [hg] at hc
        go_wp2_with fail
        refine hc.mono ?_; rintro e w1 ⟨rfl, rfl⟩
        go_wp2
        go_roundw
        case rel => exact ⟨k + 1, h, hr.out, by go_num, trivial⟩
        case measure => simp [intOf]; omega
    · have hr := Lib.hid (show Ch.bad p s l = -1 by rw [H.out, show l.length - k = 0 by omega]; rfl)
      go_wp2
      go_ret
      exact ⟨by rw [hr.out]; rfl, rfl⟩

set_option maxHeartbeats 1000000 in
theorem risc_calls (p s : Int) (l : List UInt8) (w : World) (hl : l.length ≤ maxLen) :
    Calls Tryd.prog 10 #[.int .i64 p, .int .i64 s, .string (str l)] w fun e w' => e = .returned (.bool (Ch.isName p s l)) ∧ w = w' := by
  have hsz := str_size l
  have hb := rbadc_calls p s l w hl
  have HR := Lib.hid (Ch.isName_ref p s l)
  unfold maxLen at hl
  by_cases h1 : 1 ≤ l.length
  · have d1 : decide ((1 : Int) ≤ (l.length : Int)) = true := decide_eq_true (by omega)
    have d1' : decide (1 ≤ l.length) = true := decide_eq_true h1
    by_cases h2 : l.length ≤ 60
    · have d2 : decide ((l.length : Int) ≤ 60) = true := decide_eq_true (by omega)
      have d2' : decide (l.length ≤ 60) = true := decide_eq_true h2
      by_cases h3 : 1 ≤ p
      · have d3 : decide (1 ≤ p) = true := decide_eq_true h3
        by_cases h4 : p ≤ 4
        · have d4 : decide (p ≤ 4) = true := decide_eq_true h4
          by_cases hs : s = 0 ∨ s = 1
          · have hr := Lib.hid (show Ch.isName p s l = decide (Ch.bad p s l < 0) by
              rw [HR.out, d1', d2', d3, d4, show (decide (s = 0) || decide (s = 1)) = true by rcases hs with rfl | rfl <;> rfl]; rfl)
            generalize Ch.bad p s l = z at *
            rcases hs with rfl | rfl
            all_goals
              go_enter Tryd.func10, Tryd.ntmps10
              go_wp2_with fail
              refine hb.mono ?_; rintro e w1 ⟨rfl, rfl⟩
              go_wp2
              go_ret
              exact ⟨by rw [hr.out]; rfl, rfl⟩
          · have n0 : ¬ s = 0 := fun e => hs (Or.inl e)
            have n1 : ¬ s = 1 := fun e => hs (Or.inr e)
            have e0 : decide (s = 0) = false := decide_eq_false n0
            have e1 : decide (s = 1) = false := decide_eq_false n1
            have b0 : (s == 0) = false := by simpa using n0
            have b1 : (s == 1) = false := by simpa using n1
            have bb : (s == 0 || s == 1) = false := by rw [b0, b1]; rfl
            have hr := Lib.hid (show Ch.isName p s l = false by rw [HR.out, e0, e1]; simp)
            go_enter Tryd.func10, Tryd.ntmps10
            go_wp2_with (refine hb.mono ?_; rintro e w1 ⟨rfl, rfl⟩)
            go_ret
            exact ⟨by rw [hr.out]; rfl, rfl⟩
        · have d4 : decide (p ≤ 4) = false := decide_eq_false h4
          have hr := Lib.hid (show Ch.isName p s l = false by rw [HR.out, d4]; simp)
          go_enter Tryd.func10, Tryd.ntmps10
          go_wp2
          go_ret
          exact ⟨by rw [hr.out]; rfl, rfl⟩
      · have d3 : decide (1 ≤ p) = false := decide_eq_false h3
        have hr := Lib.hid (show Ch.isName p s l = false by rw [HR.out, d3]; simp)
        go_enter Tryd.func10, Tryd.ntmps10
        go_wp2
        go_ret
        exact ⟨by rw [hr.out]; rfl, rfl⟩
    · have d2 : decide ((l.length : Int) ≤ 60) = false := decide_eq_false (by omega)
      have d2' : decide (l.length ≤ 60) = false := decide_eq_false h2
      have hr := Lib.hid (show Ch.isName p s l = false by rw [HR.out, d2']; simp)
      go_enter Tryd.func10, Tryd.ntmps10
      go_wp2
      go_ret
      exact ⟨by rw [hr.out]; rfl, rfl⟩
  · have d1 : decide ((1 : Int) ≤ (l.length : Int)) = false := decide_eq_false (by omega)
    have d1' : decide (1 ≤ l.length) = false := decide_eq_false h1
    have hr := Lib.hid (show Ch.isName p s l = false by rw [HR.out, d1']; rfl)
    go_enter Tryd.func10, Tryd.ntmps10
    go_wp2
    go_ret
    exact ⟨by rw [hr.out]; rfl, rfl⟩

end Go.Proofs.YtaljohmiiigecaaDoor
