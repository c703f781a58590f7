/- The walk of the law EscapeBack. -/
import Derived.Test.YtaiolkeiabhcpaaDoorEscK
import Derived.Deep.DeepCutAuto
set_option maxRecDepth 100000
set_option linter.unusedVariables false
set_option linter.unusedSimpArgs false
namespace Go.Proofs.YtaiolkeiabhcpaaDoor
open Go.RowKit

set_option maxHeartbeats 16000000 in
theorem esback_walk (y : Int) (what : Bool) (a b : List UInt8) (w : World) (hy : 0 ≤ y) (hy2 : y ≤ 255) (hma : a.length ≤ maxLen) (hmb : b.length ≤ maxLen) (hT : ChT w) (hM : MxT w) :
    Calls Tryd.prog 4 #[.int .u8 y, .bool what, .string (str a), .string (str b)] w fun e w' => e = .returned (.bool true) ∧ Below w.heap.size w w' := by
  have sza := str_size a
  have szb := str_size b
  unfold maxLen at *
  go_enter Tryd.func4, Tryd.ntmps4
  go_wp2_with fail
  refine (esknown_calls _ hT hM).mono ?_; rintro e w1 ⟨rfl, b1⟩
  have B1 := Lib.hid b1
  clear b1
  by_cases ha : 100 < a.length
  · have da : decide ((100 : Int) < (a.length : Int)) = true := decide_eq_true (by omega)
    have da' : decide (100 < a.length) = true := decide_eq_true ha
    go_wp2
    go_ret
    exact ⟨rfl, B1.out⟩
  have da : decide ((100 : Int) < (a.length : Int)) = false := decide_eq_false (by omega)
  have da' : decide (100 < a.length) = false := decide_eq_false ha
  by_cases hb : 100 < b.length
  · have db : decide ((100 : Int) < (b.length : Int)) = true := decide_eq_true (by omega)
    have db' : decide (100 < b.length) = true := decide_eq_true hb
    go_wp2
    go_ret
    exact ⟨rfl, B1.out⟩
  have db : decide ((100 : Int) < (b.length : Int)) = false := decide_eq_false (by omega)
  have db' : decide (100 < b.length) = false := decide_eq_false hb
  obtain ⟨P, hP1, hP4, HP⟩ : ∃ P : Int, 1 ≤ P ∧ P ≤ 4 ∧ Hid (1 + y % 4 = P) := ⟨1 + y % 4, by omega, by omega, rfl⟩
  go_upto_region 5 with (fail)
  go_cut [9, 10] (fun sp sw wx => sp = .int .i64 P ∧ sw = .int .i64 0 ∧ wx = w1)
  case first =>
    go_wp2_with fail
    go_meet
    exact ⟨by rw [HP.out], rfl, rfl⟩
  case rest =>
    obtain ⟨rfl, rfl, rfl⟩ := hcut
    obtain ⟨S, hS, HS⟩ : ∃ S : Int, (S = 0 ∨ S = 1) ∧ Hid (S = if what then 1 else 0) := ⟨if what then 1 else 0, by cases what <;> simp, rfl⟩
    go_upto_if 29 with (fail)
    go_cut [10] (fun sw wx => sw = .int .i64 S ∧ wx = wc)
    case first =>
      cases what
      all_goals
        go_wp2_with fail
        go_meet
        exact ⟨by rw [HS.out]; rfl, rfl⟩
    case rest =>
      obtain ⟨rfl, rfl⟩ := hcut
      have HQ := Lib.hid (show 1 ≤ P ∧ P ≤ 4 ∧ (S = 0 ∨ S = 1) from ⟨hP1, hP4, hS⟩)
      clear hP1 hP4 hS HP HS
      have ea := fun W hW => escape_calls P S a W (by omega) hW
      have eb := fun W hW => escape_calls P S b W (by omega) hW
      have la := esc_len4 P S a
      have u := fun W hW => undo_calls (Ch.esc P S a) W (by omega) hW
      rw [Ch.undo_esc, show undoV (some a) = .tuple #[.string (str a), .bool true] from rfl] at u
      have k := fun W hW hX => back_calls P S (Ch.esc P S a) W (by omega) hW hX
      rw [Ch.back_esc] at k
      have bd := fun W hW => chbad_calls P S (Ch.esc P S a) W (by unfold maxLen; omega) hW
      rw [Ch.bad_is (Ch.esc_legal HQ.out a)] at bd
      have l1 : a.length ≤ (Ch.esc P S a).length := by have := Ch.escL_len P S a none; show _ ≤ (Ch.escL P S none a).length; omega
      have sx := str_size (Ch.esc P S a)
      have l2 : decide ((a.length : Int) ≤ ((Ch.esc P S a).length : Int)) = true := decide_eq_true (by omega)
      have l2' : decide (a.length ≤ (Ch.esc P S a).length) = true := decide_eq_true l1
      by_cases hab : a = b
      · subst hab
        generalize Ch.esc P S a = X at *
        go_wp2_with fail
        refine (ea _ (hT.below B1.out)).mono ?_; rintro e w2 ⟨rfl, q2⟩
        have B2 := Lib.hid (trans9 B1.out q2)
        clear q2
        go_wp2_with fail
        refine (eb _ (hT.below B2.out)).mono ?_; rintro e w3 ⟨rfl, q3⟩
        have B3 := Lib.hid (trans9 B2.out q3)
        clear q3
        go_wp2_with fail
        refine (u _ (hM.below B3.out)).mono ?_; rintro e w4 ⟨rfl, q4⟩
        have B4 := Lib.hid (trans9 B3.out q4)
        clear q4
        go_wp2_with fail
        refine (k _ (hT.below B4.out) (hM.below B4.out)).mono ?_; rintro e w5 ⟨rfl, q5⟩
        have B5 := Lib.hid (trans9 B4.out q5)
        clear q5
        go_wp2_with fail
        refine (bd _ (hT.below B5.out)).mono ?_; rintro e w6 ⟨rfl, q6⟩
        have B6 := Lib.hid (trans9 B5.out q6)
        clear q6
        go_wp2_with fail
        go_ret
        exact ⟨rfl, B6.out⟩
      · have e1 : (a == b) = false := beq_eq_false_iff_ne.2 hab
        have hxy : ¬ Ch.esc P S a = Ch.esc P S b := fun e => hab (Ch.esc_inj e)
        have e2 : (Ch.esc P S a == Ch.esc P S b) = false := beq_eq_false_iff_ne.2 hxy
        generalize Ch.esc P S a = X at *
        generalize Ch.esc P S b = Y at *
        clear hab hxy
        go_wp2_with fail
        refine (ea _ (hT.below B1.out)).mono ?_; rintro e w2 ⟨rfl, q2⟩
        have B2 := Lib.hid (trans9 B1.out q2)
        clear q2
        go_wp2_with fail
        refine (eb _ (hT.below B2.out)).mono ?_; rintro e w3 ⟨rfl, q3⟩
        have B3 := Lib.hid (trans9 B2.out q3)
        clear q3
        go_wp2_with fail
        refine (u _ (hM.below B3.out)).mono ?_; rintro e w4 ⟨rfl, q4⟩
        have B4 := Lib.hid (trans9 B3.out q4)
        clear q4
        go_wp2_with fail
        refine (k _ (hT.below B4.out) (hM.below B4.out)).mono ?_; rintro e w5 ⟨rfl, q5⟩
        have B5 := Lib.hid (trans9 B4.out q5)
        clear q5
        go_wp2_with fail
        refine (bd _ (hT.below B5.out)).mono ?_; rintro e w6 ⟨rfl, q6⟩
        have B6 := Lib.hid (trans9 B5.out q6)
        clear q6
        go_wp2_with fail
        go_ret
        exact ⟨rfl, B6.out⟩

end Go.Proofs.YtaiolkeiabhcpaaDoor
