/- The walk of the reference's hex (layer 13). -/
import Derived.Test.YtaiolkeiabhcpaaDoorEscC
import Derived.Test.YtaiolkeiabhcpaaDoorRefChA
set_option maxRecDepth 100000
set_option linter.unusedVariables false
set_option linter.unusedSimpArgs false
namespace Go.Proofs.YtaiolkeiabhcpaaDoor
open Go.RowKit

theorem rhex_calls (c : UInt8) (w : World) : Calls Tryd.prog 25 #[.int .u8 (c.toNat : Int)] w fun e w' => e = .returned (.int .i64 (Ch.hexI c)) ∧ w = w' := by
  have hc := c.toNat_lt
  have hd := rdigit_calls c
  have hdg : Ch.digit c = (decide (48 ≤ c.toNat) && decide (c.toNat ≤ 57)) := rfl
  have hu : Ch.unhex c = if 48 ≤ c.toNat ∧ c.toNat ≤ 57 then some (c.toNat - 48) else if 97 ≤ c.toNat ∧ c.toNat ≤ 102 then some (c.toNat - 87) else none := rfl
  by_cases h1 : 48 ≤ c.toNat ∧ c.toNat ≤ 57
  · rw [if_pos h1] at hu
    have hr := Lib.hid (Ch.hexI_some hu)
    rw [show Ch.digit c = true by rw [hdg, decide_eq_true h1.1, decide_eq_true h1.2]; rfl] at hd
    clear hdg hu
    generalize Ch.hexI c = R at *
    generalize c.toNat = n at *
    have hn1 : 48 ≤ n := h1.1
    have hn2 : n ≤ 57 := h1.2
    clear h1
    obtain ⟨m, rfl⟩ : ∃ m, n = 48 + m := ⟨n - 48, by omega⟩
    go_enter Tryd.func25, Tryd.ntmps25
    go_wp2_with fail
    refine (hd _).mono ?_; rintro e w1 ⟨rfl, rfl⟩
    go_wp2
    go_ret
    refine ⟨?_, rfl⟩
    rw [hr.out]
    refine ret_int ?_
    omega
  · rw [if_neg h1] at hu
    rw [show Ch.digit c = false by
      rw [hdg]
      by_cases a : 48 ≤ c.toNat
      · rw [decide_eq_true a, decide_eq_false (fun b => h1 ⟨a, b⟩)]; rfl
      · rw [decide_eq_false a]; rfl] at hd
    clear hdg h1
    by_cases h2 : 97 ≤ c.toNat
    · have e1 : decide ((97 : Int) ≤ (c.toNat : Int)) = true := decide_eq_true (by omega)
      have e1' : decide (97 ≤ c.toNat) = true := decide_eq_true h2
      by_cases h3 : c.toNat ≤ 102
      · have e2 : decide ((c.toNat : Int) ≤ 102) = true := decide_eq_true (by omega)
        have e2' : decide (c.toNat ≤ 102) = true := decide_eq_true h3
        rw [if_pos ⟨h2, h3⟩] at hu
        have hr := Lib.hid (Ch.hexI_some hu)
        clear hu
        generalize Ch.hexI c = R at *
        generalize c.toNat = n at *
        go_enter Tryd.func25, Tryd.ntmps25
        go_wp2_with fail
        refine (hd _).mono ?_; rintro e w1 ⟨rfl, rfl⟩
        go_wp2
        go_ret
        refine ⟨?_, rfl⟩
        rw [hr.out]
        refine ret_int ?_
        omega
      · have e2 : decide ((c.toNat : Int) ≤ 102) = false := decide_eq_false (by omega)
        have e2' : decide (c.toNat ≤ 102) = false := decide_eq_false h3
        rw [if_neg (fun h => h3 h.2)] at hu
        have hr := Lib.hid (Ch.hexI_none hu)
        clear hu
        generalize Ch.hexI c = R at *
        generalize c.toNat = n at *
        go_enter Tryd.func25, Tryd.ntmps25
        go_wp2_with fail
        refine (hd _).mono ?_; rintro e w1 ⟨rfl, rfl⟩
        go_wp2
        go_ret
        exact ⟨by rw [hr.out]; rfl, rfl⟩
    · have e1 : decide ((97 : Int) ≤ (c.toNat : Int)) = false := decide_eq_false (by omega)
      have e1' : decide (97 ≤ c.toNat) = false := decide_eq_false h2
      rw [if_neg (fun h => h2 h.1)] at hu
      have hr := Lib.hid (Ch.hexI_none hu)
      clear hu
      generalize Ch.hexI c = R at *
      generalize c.toNat = n at *
      go_enter Tryd.func25, Tryd.ntmps25
      go_wp2_with fail
      refine (hd _).mono ?_; rintro e w1 ⟨rfl, rfl⟩
      go_wp2
      go_ret
      exact ⟨by rw [hr.out]; rfl, rfl⟩

end Go.Proofs.YtaiolkeiabhcpaaDoor
