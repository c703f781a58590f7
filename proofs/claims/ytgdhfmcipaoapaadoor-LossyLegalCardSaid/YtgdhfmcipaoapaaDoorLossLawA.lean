/- The walk of the law LossyLegal. -/
import Derived.Test.YtgdhfmcipaoapaaDoorLossK
import Derived.Deep.DeepCutAuto
set_option maxRecDepth 100000
set_option linter.unusedVariables false
set_option linter.unusedSimpArgs false
namespace Go.Proofs.YtgdhfmcipaoapaaDoor
open Go.RowKit

set_option maxHeartbeats 16000000 in
theorem llegal_walk (y : Int) (what : Bool) (a : List UInt8) (w : World) (hy : 0 ≤ y) (hy2 : y ≤ 255) (hma : a.length ≤ maxLen) (hT : ChT w) :
    Calls Tryd.prog 5 #[.int .u8 y, .bool what, .string (str a)] w fun e w' => e = .returned (.bool true) ∧ Below w.heap.size w w' := by
  have sza := str_size a
  unfold maxLen at *
  go_enter Tryd.func5, Tryd.ntmps5
  go_wp2_with fail
  refine (lknown_calls _ hT).mono ?_; rintro e w1 ⟨rfl, b1⟩
  have B1 := Lib.hid b1
  clear b1
  by_cases ha : 200 < a.length
  · have da : decide ((200 : Int) < (a.length : Int)) = true := decide_eq_true (by omega)
    have da' : decide (200 < a.length) = true := decide_eq_true ha
    go_wp2
    go_ret
    exact ⟨rfl, B1.out⟩
  have da : decide ((200 : Int) < (a.length : Int)) = false := decide_eq_false (by omega)
  have da' : decide (200 < a.length) = false := decide_eq_false ha
  obtain ⟨P, hP1, hP4, HP⟩ : ∃ P : Int, 1 ≤ P ∧ P ≤ 4 ∧ Hid (1 + y % 4 = P) := ⟨1 + y % 4, by omega, by omega, rfl⟩
  go_upto_region 5 with (fail)
  go_cut [7, 8] (fun sp sw wx => sp = .int .i64 P ∧ sw = .int .i64 0 ∧ wx = w1)
  case first =>
    go_wp2_with fail
    go_meet
    exact ⟨by rw [HP.out], rfl, rfl⟩
  case rest =>
    obtain ⟨rfl, rfl, rfl⟩ := hcut
    obtain ⟨S, hS, HS⟩ : ∃ S : Int, (S = 0 ∨ S = 1) ∧ Hid (S = if what then 1 else 0) := ⟨if what then 1 else 0, by cases what <;> simp, rfl⟩
    go_upto_if 19 with (fail)
    go_cut [8] (fun sw wx => sw = .int .i64 S ∧ wx = wc)
    case first =>
      cases what
      all_goals
        go_wp2_with fail
        go_meet
        exact ⟨by rw [HS.out]; rfl, rfl⟩
    case rest =>
      obtain ⟨rfl, rfl⟩ := hcut
      have HQ := Lib.hid (show 1 ≤ P ∧ P ≤ 4 ∧ (S = 0 ∨ S = 1) from ⟨hP1, hP4, hS⟩)
      clear hP1 hP4 hS HP HS
      have la := Ch.loss_len P S a
      have ea := fun W hW => lname_calls P S a W (by unfold maxLen; omega) hW
      have eb := fun W hW => lname_calls P S (Ch.loss P S a) W (by unfold maxLen; omega) hW
      rw [Ch.loss_again HQ.out a] at eb
      have bd := fun W hW => chbad_calls P S (Ch.loss P S a) W (by unfold maxLen; omega) hW
      rw [Ch.bad_is (Ch.loss_legal HQ.out a)] at bd
      have bs := fun W hW => chbad_calls P S a W (by unfold maxLen; omega) hW
      have sx := str_size (Ch.loss P S a)
      rw [la] at sx
      by_cases hab : Ch.loss P S a = a
      · rw [hab] at ea eb bd
        clear hab la sx
        go_wp2_with fail
        refine (ea _ (hT.below B1.out)).mono ?_; rintro e w2 ⟨rfl, q2⟩
        have B2 := Lib.hid (trans9 B1.out q2)
        clear q2
        go_wp2_with fail
        refine (bd _ (hT.below B2.out)).mono ?_; rintro e w3 ⟨rfl, q3⟩
        have B3 := Lib.hid (trans9 B2.out q3)
        clear q3
        go_wp2_with fail
        refine (eb _ (hT.below B3.out)).mono ?_; rintro e w4 ⟨rfl, q4⟩
        have B4 := Lib.hid (trans9 B3.out q4)
        clear q4
        go_wp2_with fail
        go_ret
        exact ⟨rfl, B4.out⟩
      · have hz : 0 ≤ Ch.bad P S a := by
          by_cases h : Ch.bad P S a < 0
          · exact absurd (Ch.loss_stay h) hab
          · omega
        have dz : decide (0 ≤ Ch.bad P S a) = true := decide_eq_true hz
        have e1 : (Ch.loss P S a == a) = false := beq_eq_false_iff_ne.2 hab
        have HX := Lib.hid hab
        clear hab hz
        generalize Ch.loss P S a = X at *
        generalize Ch.bad P S a = z at *
        clear la
        go_wp2_with fail
        refine (ea _ (hT.below B1.out)).mono ?_; rintro e w2 ⟨rfl, q2⟩
        have B2 := Lib.hid (trans9 B1.out q2)
        clear q2
        go_wp2_with fail
        refine (bd _ (hT.below B2.out)).mono ?_; rintro e w3 ⟨rfl, q3⟩
        have B3 := Lib.hid (trans9 B2.out q3)
        clear q3
        go_wp2_with fail
        refine (eb _ (hT.below B3.out)).mono ?_; rintro e w4 ⟨rfl, q4⟩
        have B4 := Lib.hid (trans9 B3.out q4)
        clear q4
        go_wp2_with fail
        refine (bs _ (hT.below B4.out)).mono ?_; rintro e w5 ⟨rfl, q5⟩
        have B5 := Lib.hid (trans9 B4.out q5)
        clear q5
        go_wp2_with fail
        go_ret
        exact ⟨rfl, B5.out⟩

end Go.Proofs.YtgdhfmcipaoapaaDoor
