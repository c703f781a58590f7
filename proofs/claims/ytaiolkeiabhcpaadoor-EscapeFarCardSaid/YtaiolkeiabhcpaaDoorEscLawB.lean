/- The walk of the law EscapeFar. -/
import Derived.Test.YtaiolkeiabhcpaaDoorEscK
import Derived.Deep.DeepCutAuto
set_option maxRecDepth 100000
set_option linter.unusedVariables false
set_option linter.unusedSimpArgs false
namespace Go.Proofs.YtaiolkeiabhcpaaDoor
open Go.RowKit

set_option maxHeartbeats 16000000 in
theorem esfar_walk (y : Int) (what : Bool) (s : List UInt8) (w : World) (hy : 0 ≤ y) (hy2 : y ≤ 255) (hms : s.length ≤ maxLen) (hT : ChT w) (hM : MxT w) :
    Calls Tryd.prog 6 #[.int .u8 y, .bool what, .string (str s)] w fun e w' => e = .returned (.bool true) ∧ Below w.heap.size w w' := by
  have szs := str_size s
  unfold maxLen at *
  go_enter Tryd.func6, Tryd.ntmps6
  go_wp2_with fail
  refine (esknown_calls _ hT hM).mono ?_; rintro e w1 ⟨rfl, b1⟩
  have B1 := Lib.hid b1
  clear b1
  by_cases hs : 100 < s.length
  · have ds : decide ((100 : Int) < (s.length : Int)) = true := decide_eq_true (by omega)
    have ds' : decide (100 < s.length) = true := decide_eq_true hs
    go_wp2
    go_ret
    exact ⟨rfl, B1.out⟩
  have ds : decide ((100 : Int) < (s.length : Int)) = false := decide_eq_false (by omega)
  have ds' : decide (100 < s.length) = false := decide_eq_false hs
  obtain ⟨P, hP1, hP4, HP⟩ : ∃ P : Int, 1 ≤ P ∧ P ≤ 4 ∧ Hid (1 + y % 4 = P) := ⟨1 + y % 4, by omega, by omega, rfl⟩
  go_upto_region 5 with (fail)
  go_cut [7, 8] (fun sp sw wx => sp = .int .i64 P ∧ sw = .int .i64 0 ∧ wx = w1)
  case first =>
    go_wp2_with fail
    go_meet
    exact ⟨by rw [HP.out], rfl, rfl⟩
  case rest =>
    obtain ⟨rfl, rfl, rfl⟩ := hcut
    obtain ⟨S, hS, HS⟩ : ∃ S : Int, (S = 0 ∨ S = 1) ∧ Hid (S = if what then 1 else 0) := ⟨if what then 1 else 0, by cases what <;> simp, rfl⟩
    go_upto_if 21 with (fail)
    go_cut [8] (fun sw wx => sw = .int .i64 S ∧ wx = wc)
    case first =>
      cases what
      all_goals
        go_wp2_with fail
        go_meet
        exact ⟨by rw [HS.out]; rfl, rfl⟩
    case rest =>
      obtain ⟨rfl, rfl⟩ := hcut
      have HQ := Lib.hid (show 1 ≤ P ∧ P ≤ 4 ∧ (S = 0 ∨ S = 1) from ⟨hP1, hP4, hS⟩)
      clear hP1 hP4 hS HP HS
      have k := fun W hW hX => back_calls P S s W (by omega) hW hX
      have u := fun W hW => undo_calls s W (by omega) hW
      clear HQ
      cases hu : Ch.undo s with
      | none =>
        rw [hu, show undoV none = .tuple #[.string ⟨#[]⟩, .bool false] from rfl] at u
        rw [Ch.back_none hu] at k
        clear hu
        go_wp2_with fail
        refine (k _ (hT.below B1.out) (hM.below B1.out)).mono ?_; rintro e w2 ⟨rfl, q2⟩
        have B2 := Lib.hid (trans9 B1.out q2)
        clear q2
        go_wp2_with fail
        refine (u _ (hM.below B2.out)).mono ?_; rintro e w3 ⟨rfl, q3⟩
        have B3 := Lib.hid (trans9 B2.out q3)
        clear q3
        go_wp2_with fail
        go_ret
        exact ⟨rfl, B3.out⟩
      | some t =>
        rw [hu, show undoV (some t) = .tuple #[.string (str t), .bool true] from rfl] at u
        have htl := Ch.undo_len _ s t (Nat.le_refl _) hu
        have et := fun W hW => escape_calls P S t W (by omega) hW
        by_cases hq : Ch.esc P S t = s
        · rw [Ch.back_yes hu hq] at k
          rw [hq] at et
          clear hu hq
          by_cases hts : t = s
          · subst hts
            go_wp2_with fail
            refine (k _ (hT.below B1.out) (hM.below B1.out)).mono ?_; rintro e w2 ⟨rfl, q2⟩
            have B2 := Lib.hid (trans9 B1.out q2)
            clear q2
            go_wp2_with fail
            refine (u _ (hM.below B2.out)).mono ?_; rintro e w3 ⟨rfl, q3⟩
            have B3 := Lib.hid (trans9 B2.out q3)
            clear q3
            go_wp2_with fail
            refine (et _ (hT.below B3.out)).mono ?_; rintro e w4 ⟨rfl, q4⟩
            have B4 := Lib.hid (trans9 B3.out q4)
            clear q4
            go_wp2_with fail
            go_ret
            exact ⟨rfl, B4.out⟩
          · have e1 : (t == s) = false := beq_eq_false_iff_ne.2 hts
            have HT := Lib.hid hts
            clear hts
            go_wp2_with fail
            refine (k _ (hT.below B1.out) (hM.below B1.out)).mono ?_; rintro e w2 ⟨rfl, q2⟩
            have B2 := Lib.hid (trans9 B1.out q2)
            clear q2
            go_wp2_with fail
            refine (u _ (hM.below B2.out)).mono ?_; rintro e w3 ⟨rfl, q3⟩
            have B3 := Lib.hid (trans9 B2.out q3)
            clear q3
            go_wp2_with fail
            refine (et _ (hT.below B3.out)).mono ?_; rintro e w4 ⟨rfl, q4⟩
            have B4 := Lib.hid (trans9 B3.out q4)
            clear q4
            go_wp2_with fail
            go_ret
            exact ⟨rfl, B4.out⟩
        · rw [Ch.back_no hu hq] at k
          have e1 : (Ch.esc P S t == s) = false := beq_eq_false_iff_ne.2 hq
          generalize Ch.esc P S t = X at *
          clear hu
          have HT := Lib.hid hq
          clear hq
          go_wp2_with fail
          refine (k _ (hT.below B1.out) (hM.below B1.out)).mono ?_; rintro e w2 ⟨rfl, q2⟩
          have B2 := Lib.hid (trans9 B1.out q2)
          clear q2
          go_wp2_with fail
          refine (u _ (hM.below B2.out)).mono ?_; rintro e w3 ⟨rfl, q3⟩
          have B3 := Lib.hid (trans9 B2.out q3)
          clear q3
          go_wp2_with fail
          refine (et _ (hT.below B3.out)).mono ?_; rintro e w4 ⟨rfl, q4⟩
          have B4 := Lib.hid (trans9 B3.out q4)
          clear q4
          go_wp2_with fail
          go_ret
          exact ⟨rfl, B4.out⟩

end Go.Proofs.YtaiolkeiabhcpaaDoor
