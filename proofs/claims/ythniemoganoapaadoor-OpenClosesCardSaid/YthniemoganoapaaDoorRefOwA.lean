/- The walks of the reference's In, has; of Scan's Next, Lit (layer 17). -/
import Derived.Test.YthniemoganoapaaDoorOwDfaB
import Derived.Test.YthniemoganoapaaDoorGrd
import Derived.Deep.RegionHeld3
import Derived.Deep.DrawnRows
import Derived.Deep.DeepCutAuto
import Derived.BigQuiet
import Derived.OwnWalk
set_option maxRecDepth 100000
set_option linter.unusedVariables false
set_option linter.unusedSimpArgs false
namespace Go.Proofs.YthniemoganoapaaDoor
open Go.RowKit
attribute [local go_sem ↓] Go.wp_at_zero Go.wp_at_succ

set_option maxHeartbeats 16000000 in
theorem in_calls (c : UInt8) (k : Int) (w : World) : Calls Tryd.prog 45 #[.int .u8 (c.toNat : Int), .int .i64 k] w fun e w' => e = .returned (.bool (Ow.inC k c)) ∧ w = w' := by
  have hl0 := Lib.hid (show Ow.letter c = ((decide (97 ≤ c.toNat) && decide (c.toNat ≤ 122)) || (decide (65 ≤ c.toNat) && decide (c.toNat ≤ 90))) from rfl)
  have hd0 := Lib.hid (show Ow.digit c = (decide (48 ≤ c.toNat) && decide (c.toNat ≤ 57)) from rfl)
  have hr0 := Lib.hid (show Ow.inC k c = if k = 0 then Ow.digit c
    else if k = 1 then decide (97 ≤ c.toNat) && decide (c.toNat ≤ 122)
    else if k = 2 then Ow.letter c || Ow.digit c || decide (c.toNat = 95) || decide (c.toNat = 58)
    else if k = 3 then Ow.letter c || Ow.digit c || decide (c.toNat = 95)
    else if k = 4 then Ow.letter c || Ow.digit c || decide (c.toNat = 95) || decide (c.toNat = 45) || decide (c.toNat = 58)
    else if k = 5 then Ow.letter c || Ow.digit c || decide (c.toNat = 95) || decide (c.toNat = 45) || decide (c.toNat = 46)
    else decide (33 ≤ c.toNat) && decide (c.toNat ≤ 126) from rfl)
  generalize c.toNat = n at *
  generalize Ow.inC k c = R0 at *
  generalize Ow.letter c = L at *
  generalize Ow.digit c = D2 at *
  go_enter Tryd.func45, Tryd.ntmps45
  go_upto_region 1 with (fail)
  go_cut [5] (fun s5 wx => s5 = .bool L ∧ wx = w)
  case first =>
    clear hr0 hd0
    have hr := hl0
    clear hl0
    by_cases a_g97 : (97 : Int) ≤ (n : Int)
    · have d_g97 : decide ((97 : Int) ≤ (n : Int)) = true := decide_eq_true a_g97
      have n_g97 : (97 ≤ n) := by omega
      have e_g97 : decide (97 ≤ n) = true := decide_eq_true n_g97
      by_cases a_l122 : (n : Int) ≤ 122
      · have d_l122 : decide ((n : Int) ≤ 122) = true := decide_eq_true a_l122
        have n_l122 : (n ≤ 122) := by omega
        have e_l122 : decide (n ≤ 122) = true := decide_eq_true n_l122
        have hv := Lib.hid (show L = true by rw [hr.out]; simp only [e_g97, e_l122]; rfl)
        clear hr
        go_wp2_with fail
        go_meet
        exact ⟨by rw [hv.out], rfl⟩
      · have d_l122 : decide ((n : Int) ≤ 122) = false := decide_eq_false a_l122
        have n_l122 : ¬ (n ≤ 122) := by omega
        have e_l122 : decide (n ≤ 122) = false := decide_eq_false n_l122
        by_cases a_g65 : (65 : Int) ≤ (n : Int)
        · have d_g65 : decide ((65 : Int) ≤ (n : Int)) = true := decide_eq_true a_g65
          have n_g65 : (65 ≤ n) := by omega
          have e_g65 : decide (65 ≤ n) = true := decide_eq_true n_g65
          by_cases a_l90 : (n : Int) ≤ 90
          · have d_l90 : decide ((n : Int) ≤ 90) = true := decide_eq_true a_l90
            have n_l90 : (n ≤ 90) := by omega
            have e_l90 : decide (n ≤ 90) = true := decide_eq_true n_l90
            have hv := Lib.hid (show L = true by rw [hr.out]; simp only [e_g97, e_l122, e_g65, e_l90]; rfl)
            clear hr
            go_wp2_with fail
            go_meet
            exact ⟨by rw [hv.out], rfl⟩
          · have d_l90 : decide ((n : Int) ≤ 90) = false := decide_eq_false a_l90
            have n_l90 : ¬ (n ≤ 90) := by omega
            have e_l90 : decide (n ≤ 90) = false := decide_eq_false n_l90
            have hv := Lib.hid (show L = false by rw [hr.out]; simp only [e_g97, e_l122, e_g65, e_l90]; rfl)
            clear hr
            go_wp2_with fail
            go_meet
            exact ⟨by rw [hv.out], rfl⟩
        · have d_g65 : decide ((65 : Int) ≤ (n : Int)) = false := decide_eq_false a_g65
          have n_g65 : ¬ (65 ≤ n) := by omega
          have e_g65 : decide (65 ≤ n) = false := decide_eq_false n_g65
          have hv := Lib.hid (show L = false by rw [hr.out]; simp only [e_g97, e_l122, e_g65]; rfl)
          clear hr
          go_wp2_with fail
          go_meet
          exact ⟨by rw [hv.out], rfl⟩
    · have d_g97 : decide ((97 : Int) ≤ (n : Int)) = false := decide_eq_false a_g97
      have n_g97 : ¬ (97 ≤ n) := by omega
      have e_g97 : decide (97 ≤ n) = false := decide_eq_false n_g97
      by_cases a_g65 : (65 : Int) ≤ (n : Int)
      · have d_g65 : decide ((65 : Int) ≤ (n : Int)) = true := decide_eq_true a_g65
        have n_g65 : (65 ≤ n) := by omega
        have e_g65 : decide (65 ≤ n) = true := decide_eq_true n_g65
        by_cases a_l90 : (n : Int) ≤ 90
        · have d_l90 : decide ((n : Int) ≤ 90) = true := decide_eq_true a_l90
          have n_l90 : (n ≤ 90) := by omega
          have e_l90 : decide (n ≤ 90) = true := decide_eq_true n_l90
          have hv := Lib.hid (show L = true by rw [hr.out]; simp only [e_g97, e_g65, e_l90]; rfl)
          clear hr
          go_wp2_with fail
          go_meet
          exact ⟨by rw [hv.out], rfl⟩
        · have d_l90 : decide ((n : Int) ≤ 90) = false := decide_eq_false a_l90
          have n_l90 : ¬ (n ≤ 90) := by omega
          have e_l90 : decide (n ≤ 90) = false := decide_eq_false n_l90
          have hv := Lib.hid (show L = false by rw [hr.out]; simp only [e_g97, e_g65, e_l90]; rfl)
          clear hr
          go_wp2_with fail
          go_meet
          exact ⟨by rw [hv.out], rfl⟩
      · have d_g65 : decide ((65 : Int) ≤ (n : Int)) = false := decide_eq_false a_g65
        have n_g65 : ¬ (65 ≤ n) := by omega
        have e_g65 : decide (65 ≤ n) = false := decide_eq_false n_g65
        have hv := Lib.hid (show L = false by rw [hr.out]; simp only [e_g97, e_g65]; rfl)
        clear hr
        go_wp2_with fail
        go_meet
        exact ⟨by rw [hv.out], rfl⟩
  case rest =>
    obtain ⟨rfl, hx⟩ := hcut
    obtain rfl := hx.symm
    clear hx hl0
    go_upto_region 2 with (fail)
    go_cut [6] (fun s6 wy => s6 = .bool D2 ∧ wy = w)
    case first =>
      clear hr0
      have hr := hd0
      clear hd0
      by_cases a_g48 : (48 : Int) ≤ (n : Int)
      · have d_g48 : decide ((48 : Int) ≤ (n : Int)) = true := decide_eq_true a_g48
        have n_g48 : (48 ≤ n) := by omega
        have e_g48 : decide (48 ≤ n) = true := decide_eq_true n_g48
        by_cases a_l57 : (n : Int) ≤ 57
        · have d_l57 : decide ((n : Int) ≤ 57) = true := decide_eq_true a_l57
          have n_l57 : (n ≤ 57) := by omega
          have e_l57 : decide (n ≤ 57) = true := decide_eq_true n_l57
          have hv := Lib.hid (show D2 = true by rw [hr.out]; simp only [e_g48, e_l57]; rfl)
          clear hr
          go_wp2_with fail
          go_meet
          exact ⟨by rw [hv.out], rfl⟩
        · have d_l57 : decide ((n : Int) ≤ 57) = false := decide_eq_false a_l57
          have n_l57 : ¬ (n ≤ 57) := by omega
          have e_l57 : decide (n ≤ 57) = false := decide_eq_false n_l57
          have hv := Lib.hid (show D2 = false by rw [hr.out]; simp only [e_g48, e_l57]; rfl)
          clear hr
          go_wp2_with fail
          go_meet
          exact ⟨by rw [hv.out], rfl⟩
      · have d_g48 : decide ((48 : Int) ≤ (n : Int)) = false := decide_eq_false a_g48
        have n_g48 : ¬ (48 ≤ n) := by omega
        have e_g48 : decide (48 ≤ n) = false := decide_eq_false n_g48
        have hv := Lib.hid (show D2 = false by rw [hr.out]; simp only [e_g48]; rfl)
        clear hr
        go_wp2_with fail
        go_meet
        exact ⟨by rw [hv.out], rfl⟩
    case rest =>
      obtain ⟨rfl, hx⟩ := hcut
      obtain rfl := hx.symm
      clear hx hd0
      by_cases k0 : k = 0
      · subst k0
        rw [if_pos rfl] at hr0
        have hr := hr0
        clear hr0
        cases hb_D : D2
        · have hv := Lib.hid (show R0 = false by rw [hr.out]; (try simp only [hb_D]); try rfl)
          clear hr
          go_wp2
          go_ret
          exact ⟨by rw [hv.out]; rfl, rfl⟩
        · have hv := Lib.hid (show R0 = true by rw [hr.out]; (try simp only [hb_D]); try rfl)
          clear hr
          go_wp2
          go_ret
          exact ⟨by rw [hv.out]; rfl, rfl⟩
      by_cases k1 : k = 1
      · subst k1
        clear k0
        rw [if_neg (by decide)] at hr0
        rw [if_pos rfl] at hr0
        have hr := hr0
        clear hr0
        by_cases a_g97 : (97 : Int) ≤ (n : Int)
        · have d_g97 : decide ((97 : Int) ≤ (n : Int)) = true := decide_eq_true a_g97
          have n_g97 : (97 ≤ n) := by omega
          have e_g97 : decide (97 ≤ n) = true := decide_eq_true n_g97
          by_cases a_l122 : (n : Int) ≤ 122
          · have d_l122 : decide ((n : Int) ≤ 122) = true := decide_eq_true a_l122
            have n_l122 : (n ≤ 122) := by omega
            have e_l122 : decide (n ≤ 122) = true := decide_eq_true n_l122
            have hv := Lib.hid (show R0 = true by rw [hr.out]; (try simp only [e_g97, e_l122]); try rfl)
            clear hr
            go_wp2
            go_ret
            exact ⟨by rw [hv.out]; rfl, rfl⟩
          · have d_l122 : decide ((n : Int) ≤ 122) = false := decide_eq_false a_l122
            have n_l122 : ¬ (n ≤ 122) := by omega
            have e_l122 : decide (n ≤ 122) = false := decide_eq_false n_l122
            have hv := Lib.hid (show R0 = false by rw [hr.out]; (try simp only [e_g97, e_l122]); try rfl)
            clear hr
            go_wp2
            go_ret
            exact ⟨by rw [hv.out]; rfl, rfl⟩
        · have d_g97 : decide ((97 : Int) ≤ (n : Int)) = false := decide_eq_false a_g97
          have n_g97 : ¬ (97 ≤ n) := by omega
          have e_g97 : decide (97 ≤ n) = false := decide_eq_false n_g97
          have hv := Lib.hid (show R0 = false by rw [hr.out]; (try simp only [e_g97]); try rfl)
          clear hr
          go_wp2
          go_ret
          exact ⟨by rw [hv.out]; rfl, rfl⟩
      by_cases k2 : k = 2
      · subst k2
        clear k0
        clear k1
        rw [if_neg (by decide)] at hr0
        rw [if_neg (by decide)] at hr0
        rw [if_pos rfl] at hr0
        have hr := hr0
        clear hr0
        cases hb_L : L
        · cases hb_D : D2
          · by_cases a_x95 : (n : Int) = 95
            · have d_x95 : decide ((n : Int) = 95) = true := decide_eq_true a_x95
              have b_x95 : ((n : Int) == 95) = true := by simpa using a_x95
              have n_x95 : (n = 95) := by omega
              have e_x95 : decide (n = 95) = true := decide_eq_true n_x95
              have hN_x95 := Lib.hid n_x95
              clear n_x95
              have hA_x95 := Lib.hid a_x95
              clear a_x95
              have hv := Lib.hid (show R0 = true by rw [hr.out]; (try simp only [hb_L, hb_D, e_x95]); try rfl)
              clear hr
              go_wp2
              go_ret
              exact ⟨by rw [hv.out]; rfl, rfl⟩
            · have d_x95 : decide ((n : Int) = 95) = false := decide_eq_false a_x95
              have b_x95 : ((n : Int) == 95) = false := by simpa using a_x95
              have n_x95 : ¬ (n = 95) := by omega
              have e_x95 : decide (n = 95) = false := decide_eq_false n_x95
              by_cases a_x58 : (n : Int) = 58
              · have d_x58 : decide ((n : Int) = 58) = true := decide_eq_true a_x58
                have b_x58 : ((n : Int) == 58) = true := by simpa using a_x58
                have n_x58 : (n = 58) := by omega
                have e_x58 : decide (n = 58) = true := decide_eq_true n_x58
                have hN_x58 := Lib.hid n_x58
                clear n_x58
                have hA_x58 := Lib.hid a_x58
                clear a_x58
                have hv := Lib.hid (show R0 = true by rw [hr.out]; (try simp only [hb_L, hb_D, e_x95, e_x58]); try rfl)
                clear hr
                go_wp2
                go_ret
                exact ⟨by rw [hv.out]; rfl, rfl⟩
              · have d_x58 : decide ((n : Int) = 58) = false := decide_eq_false a_x58
                have b_x58 : ((n : Int) == 58) = false := by simpa using a_x58
                have n_x58 : ¬ (n = 58) := by omega
                have e_x58 : decide (n = 58) = false := decide_eq_false n_x58
                have hv := Lib.hid (show R0 = false by rw [hr.out]; (try simp only [hb_L, hb_D, e_x95, e_x58]); try rfl)
                clear hr
                go_wp2
                go_ret
                exact ⟨by rw [hv.out]; rfl, rfl⟩
          · have hv := Lib.hid (show R0 = true by rw [hr.out]; (try simp only [hb_L, hb_D]); try rfl)
            clear hr
            go_wp2
            go_ret
            exact ⟨by rw [hv.out]; rfl, rfl⟩
        · have hv := Lib.hid (show R0 = true by rw [hr.out]; (try simp only [hb_L]); try rfl)
          clear hr
          go_wp2
          go_ret
          exact ⟨by rw [hv.out]; rfl, rfl⟩
      by_cases k3 : k = 3
      · subst k3
        clear k0
        clear k1
        clear k2
        rw [if_neg (by decide)] at hr0
        rw [if_neg (by decide)] at hr0
        rw [if_neg (by decide)] at hr0
        rw [if_pos rfl] at hr0
        have hr := hr0
        clear hr0
        cases hb_L : L
        · cases hb_D : D2
          · by_cases a_x95 : (n : Int) = 95
            · have d_x95 : decide ((n : Int) = 95) = true := decide_eq_true a_x95
              have b_x95 : ((n : Int) == 95) = true := by simpa using a_x95
              have n_x95 : (n = 95) := by omega
              have e_x95 : decide (n = 95) = true := decide_eq_true n_x95
              have hN_x95 := Lib.hid n_x95
              clear n_x95
              have hA_x95 := Lib.hid a_x95
              clear a_x95
              have hv := Lib.hid (show R0 = true by rw [hr.out]; (try simp only [hb_L, hb_D, e_x95]); try rfl)
              clear hr
              go_wp2
              go_ret
              exact ⟨by rw [hv.out]; rfl, rfl⟩
            · have d_x95 : decide ((n : Int) = 95) = false := decide_eq_false a_x95
              have b_x95 : ((n : Int) == 95) = false := by simpa using a_x95
              have n_x95 : ¬ (n = 95) := by omega
              have e_x95 : decide (n = 95) = false := decide_eq_false n_x95
              have hv := Lib.hid (show R0 = false by rw [hr.out]; (try simp only [hb_L, hb_D, e_x95]); try rfl)
              clear hr
              go_wp2
              go_ret
              exact ⟨by rw [hv.out]; rfl, rfl⟩
          · have hv := Lib.hid (show R0 = true by rw [hr.out]; (try simp only [hb_L, hb_D]); try rfl)
            clear hr
            go_wp2
            go_ret
            exact ⟨by rw [hv.out]; rfl, rfl⟩
        · have hv := Lib.hid (show R0 = true by rw [hr.out]; (try simp only [hb_L]); try rfl)
          clear hr
          go_wp2
          go_ret
          exact ⟨by rw [hv.out]; rfl, rfl⟩
      by_cases k4 : k = 4
      · subst k4
        clear k0
        clear k1
        clear k2
        clear k3
        rw [if_neg (by decide)] at hr0
        rw [if_neg (by decide)] at hr0
        rw [if_neg (by decide)] at hr0
        rw [if_neg (by decide)] at hr0
        rw [if_pos rfl] at hr0
        have hr := hr0
        clear hr0
        cases hb_L : L
        · cases hb_D : D2
          · by_cases a_x95 : (n : Int) = 95
            · have d_x95 : decide ((n : Int) = 95) = true := decide_eq_true a_x95
              have b_x95 : ((n : Int) == 95) = true := by simpa using a_x95
              have n_x95 : (n = 95) := by omega
              have e_x95 : decide (n = 95) = true := decide_eq_true n_x95
              have hN_x95 := Lib.hid n_x95
              clear n_x95
              have hA_x95 := Lib.hid a_x95
              clear a_x95
              have hv := Lib.hid (show R0 = true by rw [hr.out]; (try simp only [hb_L, hb_D, e_x95]); try rfl)
              clear hr
              go_wp2
              go_ret
              exact ⟨by rw [hv.out]; rfl, rfl⟩
            · have d_x95 : decide ((n : Int) = 95) = false := decide_eq_false a_x95
              have b_x95 : ((n : Int) == 95) = false := by simpa using a_x95
              have n_x95 : ¬ (n = 95) := by omega
              have e_x95 : decide (n = 95) = false := decide_eq_false n_x95
              by_cases a_x45 : (n : Int) = 45
              · have d_x45 : decide ((n : Int) = 45) = true := decide_eq_true a_x45
                have b_x45 : ((n : Int) == 45) = true := by simpa using a_x45
                have n_x45 : (n = 45) := by omega
                have e_x45 : decide (n = 45) = true := decide_eq_true n_x45
                have hN_x45 := Lib.hid n_x45
                clear n_x45
                have hA_x45 := Lib.hid a_x45
                clear a_x45
                have hv := Lib.hid (show R0 = true by rw [hr.out]; (try simp only [hb_L, hb_D, e_x95, e_x45]); try rfl)
                clear hr
                go_wp2
                go_ret
                exact ⟨by rw [hv.out]; rfl, rfl⟩
              · have d_x45 : decide ((n : Int) = 45) = false := decide_eq_false a_x45
                have b_x45 : ((n : Int) == 45) = false := by simpa using a_x45
                have n_x45 : ¬ (n = 45) := by omega
                have e_x45 : decide (n = 45) = false := decide_eq_false n_x45
                by_cases a_x58 : (n : Int) = 58
                · have d_x58 : decide ((n : Int) = 58) = true := decide_eq_true a_x58
                  have b_x58 : ((n : Int) == 58) = true := by simpa using a_x58
                  have n_x58 : (n = 58) := by omega
                  have e_x58 : decide (n = 58) = true := decide_eq_true n_x58
                  have hN_x58 := Lib.hid n_x58
                  clear n_x58
                  have hA_x58 := Lib.hid a_x58
                  clear a_x58
                  have hv := Lib.hid (show R0 = true by rw [hr.out]; (try simp only [hb_L, hb_D, e_x95, e_x45, e_x58]); try rfl)
                  clear hr
                  go_wp2
                  go_ret
                  exact ⟨by rw [hv.out]; rfl, rfl⟩
                · have d_x58 : decide ((n : Int) = 58) = false := decide_eq_false a_x58
                  have b_x58 : ((n : Int) == 58) = false := by simpa using a_x58
                  have n_x58 : ¬ (n = 58) := by omega
                  have e_x58 : decide (n = 58) = false := decide_eq_false n_x58
                  have hv := Lib.hid (show R0 = false by rw [hr.out]; (try simp only [hb_L, hb_D, e_x95, e_x45, e_x58]); try rfl)
                  clear hr
                  go_wp2
                  go_ret
                  exact ⟨by rw [hv.out]; rfl, rfl⟩
          · have hv := Lib.hid (show R0 = true by rw [hr.out]; (try simp only [hb_L, hb_D]); try rfl)
            clear hr
            go_wp2
            go_ret
            exact ⟨by rw [hv.out]; rfl, rfl⟩
        · have hv := Lib.hid (show R0 = true by rw [hr.out]; (try simp only [hb_L]); try rfl)
          clear hr
          go_wp2
          go_ret
          exact ⟨by rw [hv.out]; rfl, rfl⟩
      by_cases k5 : k = 5
      · subst k5
        clear k0
        clear k1
        clear k2
        clear k3
        clear k4
        rw [if_neg (by decide)] at hr0
        rw [if_neg (by decide)] at hr0
        rw [if_neg (by decide)] at hr0
        rw [if_neg (by decide)] at hr0
        rw [if_neg (by decide)] at hr0
        rw [if_pos rfl] at hr0
        have hr := hr0
        clear hr0
        cases hb_L : L
        · cases hb_D : D2
          · by_cases a_x95 : (n : Int) = 95
            · have d_x95 : decide ((n : Int) = 95) = true := decide_eq_true a_x95
              have b_x95 : ((n : Int) == 95) = true := by simpa using a_x95
              have n_x95 : (n = 95) := by omega
              have e_x95 : decide (n = 95) = true := decide_eq_true n_x95
              have hN_x95 := Lib.hid n_x95
              clear n_x95
              have hA_x95 := Lib.hid a_x95
              clear a_x95
              have hv := Lib.hid (show R0 = true by rw [hr.out]; (try simp only [hb_L, hb_D, e_x95]); try rfl)
              clear hr
              go_wp2
              go_ret
              exact ⟨by rw [hv.out]; rfl, rfl⟩
            · have d_x95 : decide ((n : Int) = 95) = false := decide_eq_false a_x95
              have b_x95 : ((n : Int) == 95) = false := by simpa using a_x95
              have n_x95 : ¬ (n = 95) := by omega
              have e_x95 : decide (n = 95) = false := decide_eq_false n_x95
              by_cases a_x45 : (n : Int) = 45
              · have d_x45 : decide ((n : Int) = 45) = true := decide_eq_true a_x45
                have b_x45 : ((n : Int) == 45) = true := by simpa using a_x45
                have n_x45 : (n = 45) := by omega
                have e_x45 : decide (n = 45) = true := decide_eq_true n_x45
                have hN_x45 := Lib.hid n_x45
                clear n_x45
                have hA_x45 := Lib.hid a_x45
                clear a_x45
                have hv := Lib.hid (show R0 = true by rw [hr.out]; (try simp only [hb_L, hb_D, e_x95, e_x45]); try rfl)
                clear hr
                go_wp2
                go_ret
                exact ⟨by rw [hv.out]; rfl, rfl⟩
              · have d_x45 : decide ((n : Int) = 45) = false := decide_eq_false a_x45
                have b_x45 : ((n : Int) == 45) = false := by simpa using a_x45
                have n_x45 : ¬ (n = 45) := by omega
                have e_x45 : decide (n = 45) = false := decide_eq_false n_x45
                by_cases a_x46 : (n : Int) = 46
                · have d_x46 : decide ((n : Int) = 46) = true := decide_eq_true a_x46
                  have b_x46 : ((n : Int) == 46) = true := by simpa using a_x46
                  have n_x46 : (n = 46) := by omega
                  have e_x46 : decide (n = 46) = true := decide_eq_true n_x46
                  have hN_x46 := Lib.hid n_x46
                  clear n_x46
                  have hA_x46 := Lib.hid a_x46
                  clear a_x46
                  have hv := Lib.hid (show R0 = true by rw [hr.out]; (try simp only [hb_L, hb_D, e_x95, e_x45, e_x46]); try rfl)
                  clear hr
                  go_wp2
                  go_ret
                  exact ⟨by rw [hv.out]; rfl, rfl⟩
                · have d_x46 : decide ((n : Int) = 46) = false := decide_eq_false a_x46
                  have b_x46 : ((n : Int) == 46) = false := by simpa using a_x46
                  have n_x46 : ¬ (n = 46) := by omega
                  have e_x46 : decide (n = 46) = false := decide_eq_false n_x46
                  have hv := Lib.hid (show R0 = false by rw [hr.out]; (try simp only [hb_L, hb_D, e_x95, e_x45, e_x46]); try rfl)
                  clear hr
                  go_wp2
                  go_ret
                  exact ⟨by rw [hv.out]; rfl, rfl⟩
          · have hv := Lib.hid (show R0 = true by rw [hr.out]; (try simp only [hb_L, hb_D]); try rfl)
            clear hr
            go_wp2
            go_ret
            exact ⟨by rw [hv.out]; rfl, rfl⟩
        · have hv := Lib.hid (show R0 = true by rw [hr.out]; (try simp only [hb_L]); try rfl)
          clear hr
          go_wp2
          go_ret
          exact ⟨by rw [hv.out]; rfl, rfl⟩
      rw [if_neg k0] at hr0
      rw [if_neg k1] at hr0
      rw [if_neg k2] at hr0
      rw [if_neg k3] at hr0
      rw [if_neg k4] at hr0
      rw [if_neg k5] at hr0
      have q0 : (k == 0) = false := by simpa using k0
      have q1 : (k == 1) = false := by simpa using k1
      have q2 : (k == 2) = false := by simpa using k2
      have q3 : (k == 3) = false := by simpa using k3
      have q4 : (k == 4) = false := by simpa using k4
      have q5 : (k == 5) = false := by simpa using k5
      clear k0 k1 k2 k3 k4 k5
      have hr := hr0
      clear hr0
      by_cases a_g33 : (33 : Int) ≤ (n : Int)
      · have d_g33 : decide ((33 : Int) ≤ (n : Int)) = true := decide_eq_true a_g33
        have n_g33 : (33 ≤ n) := by omega
        have e_g33 : decide (33 ≤ n) = true := decide_eq_true n_g33
        by_cases a_l126 : (n : Int) ≤ 126
        · have d_l126 : decide ((n : Int) ≤ 126) = true := decide_eq_true a_l126
          have n_l126 : (n ≤ 126) := by omega
          have e_l126 : decide (n ≤ 126) = true := decide_eq_true n_l126
          have hv := Lib.hid (show R0 = true by rw [hr.out]; (try simp only [e_g33, e_l126]); try rfl)
          clear hr
          go_wp2
          go_ret
          exact ⟨by rw [hv.out]; rfl, rfl⟩
        · have d_l126 : decide ((n : Int) ≤ 126) = false := decide_eq_false a_l126
          have n_l126 : ¬ (n ≤ 126) := by omega
          have e_l126 : decide (n ≤ 126) = false := decide_eq_false n_l126
          have hv := Lib.hid (show R0 = false by rw [hr.out]; (try simp only [e_g33, e_l126]); try rfl)
          clear hr
          go_wp2
          go_ret
          exact ⟨by rw [hv.out]; rfl, rfl⟩
      · have d_g33 : decide ((33 : Int) ≤ (n : Int)) = false := decide_eq_false a_g33
        have n_g33 : ¬ (33 ≤ n) := by omega
        have e_g33 : decide (33 ≤ n) = false := decide_eq_false n_g33
        have hv := Lib.hid (show R0 = false by rw [hr.out]; (try simp only [e_g33]); try rfl)
        clear hr
        go_wp2
        go_ret
        exact ⟨by rw [hv.out]; rfl, rfl⟩

set_option maxHeartbeats 2000000 in
theorem has_calls (l : List UInt8) (c : UInt8) (w : World) (hl : l.length ≤ maxLen) :
    Calls Tryd.prog 46 #[.string (str l), .int .u8 (c.toNat : Int)] w fun e w' => e = .returned (.bool (l.contains c)) ∧ w = w' := by
  have hsz := str_size l
  obtain ⟨C, hC⟩ : ∃ C, C = l.contains c := ⟨_, rfl⟩
  rw [← hC]
  have HC := Lib.hid hC
  clear hC
  unfold maxLen at hl
  go_enter Tryd.func46, Tryd.ntmps46
  go_wp2_with fail
  go_loop [5] (fun v => ∃ k : Nat, k ≤ l.length ∧ v = .int .i64 (k : Nat) ∧ Hid (C = (l.drop k).contains c)) (fun v => l.length - (intOf v).toNat)
  case atStart => exact ⟨0, Nat.zero_le _, rfl, HC⟩
  case round =>
    obtain ⟨k, hk, rfl, H⟩ := hrel
    by_cases h : k < l.length
    · have hin : k < (str l).size := by rw [hsz]; exact h
      have hd : l.drop k = (str l)[k]'hin :: l.drop (k + 1) := List.drop_eq_getElem_cons h
      have hyes := Lib.hid (fun (e : ((str l)[k]'hin).toNat = c.toNat) => show C = true from by
        rw [H.out, hd, List.contains_cons, show (str l)[k]'hin = c from UInt8.toNat_inj.1 e]; simp)
      have hno := Lib.hid (fun (e : ¬ ((str l)[k]'hin).toNat = c.toNat) => show C = (l.drop (k + 1)).contains c from by
        rw [H.out, hd, List.contains_cons, beq_eq_false_iff_ne.2 (fun e2 => e (by rw [← e2]))]; rfl)
      clear hd
      by_cases a : ((str l)[k].toNat : Int) = (c.toNat : Int)
      · have b : (((str l)[k].toNat : Int) == (c.toNat : Int)) = true := beq_iff_eq.2 a
        have hr := Lib.hid (hyes.out (by omega))
        clear hyes hno a
        go_wp2
        go_ret
        exact ⟨by rw [hr.out]; rfl, rfl⟩
      · have b : (((str l)[k].toNat : Int) == (c.toNat : Int)) = false := beq_eq_false_iff_ne.2 a
        have hr := Lib.hid (hno.out (by omega))
        clear hyes hno a
        go_wp2
        go_round
        case rel => exact ⟨k + 1, h, by go_num, hr.out⟩
        case measure => simp [intOf]; omega
    · have hr := Lib.hid (show C = false by rw [H.out, List.drop_of_length_le (by omega)]; rfl)
      go_wp2
      go_ret
      exact ⟨by rw [hr.out]; rfl, rfl⟩

/-- a Scan lies in block b: its text, how far it is, whether it fell -/
structure ScA (w : World) (b : Nat) (s : List UInt8) (k : Nat) (f : Bool) : Prop where
  c0 : w.cell? ⟨b, 0, none⟩ = some (.string (str s))
  c1 : w.cell? ⟨b, 1, none⟩ = some (.int .i64 (k : Nat))
  c2 : w.cell? ⟨b, 2, none⟩ = some (.bool f)
  fr : ∀ o, w.frozen? ⟨b, o, none⟩ = false
  lt : b < w.heap.size
theorem ScA.below {w w' : World} {b : Nat} {s : List UInt8} {k : Nat} {f : Bool} (h : ScA w b s k f) (hb : Below w.heap.size w w') : ScA w' b s k f :=
  ⟨(hb.cell (p := ⟨b, 0, none⟩) h.lt).trans h.c0, (hb.cell (p := ⟨b, 1, none⟩) h.lt).trans h.c1, (hb.cell (p := ⟨b, 2, none⟩) h.lt).trans h.c2, fun o => (hb.frozen (p := ⟨b, o, none⟩) h.lt).trans (h.fr o), Nat.lt_of_lt_of_le h.lt hb.size⟩
theorem ScA.fall {w : World} {b : Nat} {s : List UInt8} {k : Nat} {f : Bool} (h : ScA w b s k f) : ScA (w.setCell ⟨b, 2, none⟩ (.bool true)) b s k true := by
  obtain ⟨h0, h1, h2, h5, h4⟩ := h
  exact ⟨by go_simp, by go_simp, by go_simp, fun o => by go_simp, by simpa [World.setCell] using h4⟩
theorem ScA.move {w : World} {b : Nat} {s : List UInt8} {k : Nat} {f : Bool} (h : ScA w b s k f) (j : Nat) : ScA (w.setCell ⟨b, 1, none⟩ (.int .i64 (j : Nat))) b s j f := by
  obtain ⟨h0, h1, h2, h5, h4⟩ := h
  exact ⟨by go_simp, by go_simp, by go_simp, fun o => by go_simp, by simpa [World.setCell] using h4⟩
theorem sc_below {w w' : World} (h : Below w.heap.size w w') (row : Option Nat) : w.grownBy w' row := ⟨h.os, h.tape, h.output, h.size, fun k hk _ => h.block k hk⟩
theorem sc_set {w w1 : World} {b i : Nat} {v : Value} (h : w.grownBy w1 (some b)) : w.grownBy (w1.setCell ⟨b, i, none⟩ v) (some b) :=
  ⟨h.os, h.tape, h.output, by simpa [World.setCell] using h.size, fun k hk hne => (Below.heap_setCell _ _ _ _ (by intro e; exact hne (by rw [e]))).trans (h.block k hk hne)⟩
theorem sc_trans {a w w' : World} {row : Option Nat} (h : a.grownBy w row) (k : w.grownBy w' row) : a.grownBy w' row :=
  ⟨k.os.trans h.os, k.tape.trans h.tape, k.output.trans h.output, Nat.le_trans h.size k.size, fun j hj hne => (k.block j (Nat.lt_of_lt_of_le hj h.size) hne).trans (h.block j hj hne)⟩
namespace Ow
def fellB {α : Type} (o : Out α) : Bool := match o with | .fell _ => true | .ok _ _ => false
def hd (l : List UInt8) : Int := match l with | [] => 0 | c :: _ => (c.toNat : Int)
end Ow
/-- a Scan behind a piece -/
structure ScO {α : Type} (w : World) (b : Nat) (s : List UInt8) (o : Ow.Out α) : Prop where
  suf : o.rest <:+ s
  num : ScA w b s (s.length - o.rest.length) (Ow.fellB o)
theorem ScO.below {α : Type} {w w' : World} {b : Nat} {s : List UInt8} {o : Ow.Out α} (h : ScO w b s o) (hb : Below w.heap.size w w') : ScO w' b s o := ⟨h.suf, h.num.below hb⟩
theorem Ow.suf_at {l s : List UInt8} (h : l <:+ s) : s.drop (s.length - l.length) = l := by
  obtain ⟨t, rfl⟩ := h
  rw [List.length_append, Nat.add_sub_cancel]; exact List.drop_left
theorem ScO.to {α β : Type} {w : World} {b : Nat} {s : List UInt8} {o : Ow.Out α} {o' : Ow.Out β} (h : ScO w b s o) (e1 : o'.rest = o.rest) (e2 : Ow.fellB o' = Ow.fellB o) : ScO w b s o' := ⟨by rw [e1]; exact h.suf, by rw [e1, e2]; exact h.num⟩
theorem ScA.toO {α : Type} {w : World} {b : Nat} {s : List UInt8} {k : Nat} {f : Bool} {o : Ow.Out α} (h : ScA w b s k f) (hk : k ≤ s.length) (e1 : o.rest = s.drop k) (e2 : Ow.fellB o = f) : ScO w b s o := by
  refine ⟨by rw [e1]; exact List.drop_suffix _ _, ?_⟩
  rw [e1, e2, List.length_drop, show s.length - (s.length - k) = k by omega]; exact h

set_option maxHeartbeats 2000000 in
theorem scnext_calls {α : Type} (o : Ow.Out α) (b : Nat) (s : List UInt8) (w : World) (h : ScO w b s o) (hs : s.length ≤ maxLen) :
    Calls Tryd.prog 21 #[.pointer (some ⟨b, 0, none⟩)] w fun e w' => e = .returned (.int .u8 (Ow.hd o.rest)) ∧ Below w.heap.size w w' := by
  have hsz := str_size s
  obtain ⟨hsuf, hn⟩ := h
  have hd0 := Ow.suf_at hsuf
  have hkl : s.length - o.rest.length ≤ s.length := Nat.sub_le _ _
  generalize s.length - o.rest.length = k at *
  generalize o.rest = r at *
  obtain ⟨c0, c1, c2, fr, lt⟩ := hn
  unfold maxLen at hs
  by_cases hk : k < s.length
  · have hin : k < (str s).size := by rw [hsz]; exact hk
    have d1 : decide ((s.length : Int) ≤ (k : Int)) = false := decide_eq_false (by omega)
    have hr := Lib.hid (show Ow.hd r = (((str s)[k]'hin).toNat : Int) by rw [← hd0, List.drop_eq_getElem_cons hk]; rfl)
    clear hd0 hsuf
    go_enter Tryd.func21, Tryd.ntmps21
    go_upto_region 1 with fail
    go_quiet (fail)
    go_upto_region 3 with fail
    go_quiet (fail)
    go_wp2
    go_ret
    exact ⟨by rw [hr.out]; rfl, below_drewN (below_drewN (Below.refl _ _) _) _⟩
  · have d1 : decide ((s.length : Int) ≤ (k : Int)) = true := decide_eq_true (by omega)
    have hr := Lib.hid (show Ow.hd r = 0 by rw [← hd0, List.drop_of_length_le (by omega)]; rfl)
    clear hd0 hsuf
    go_enter Tryd.func21, Tryd.ntmps21
    go_upto_region 1 with fail
    go_quiet (fail)
    go_wp2
    go_ret
    exact ⟨by rw [hr.out]; rfl, below_drewN (Below.refl _ _) _⟩

end Go.Proofs.YthniemoganoapaaDoor
