/- The texts RefChA, RefChB, one behind the other. -/
import Derived.Test.YtgoibhbmndpgpaaGreatDoorChP
import Derived.Test.YtgoibhbmndpgpaaGreatDoorGrd

/- The walks of the reference's letter, digit, Legal, Bad, Is (layer 12). -/
set_option maxRecDepth 100000
set_option linter.unusedVariables false
set_option linter.unusedSimpArgs false
namespace Go.Proofs.YtgoibhbmndpgpaaGreatDoor
open Go.RowKit

theorem rletter_calls (c : UInt8) (w : World) : Calls Tryz.prog 56 #[.int .u8 (c.toNat : Int)] w fun e w' => e = .returned (.bool (Ch.letter c)) ∧ w = w' := by
  have hr := Lib.hid (show Ch.letter c = ((decide (97 ≤ c.toNat) && decide (c.toNat ≤ 122)) || (decide (65 ≤ c.toNat) && decide (c.toNat ≤ 90))) from rfl)
  generalize c.toNat = n at *
  generalize Ch.letter c = R at *
  by_cases a_g97 : (97 : Int) ≤ (n : Int)
  · have d_g97 : decide ((97 : Int) ≤ (n : Int)) = true := decide_eq_true a_g97
    have n_g97 : (97 ≤ n) := by omega
    have e_g97 : decide (97 ≤ n) = true := decide_eq_true n_g97
    by_cases a_l122 : (n : Int) ≤ 122
    · have d_l122 : decide ((n : Int) ≤ 122) = true := decide_eq_true a_l122
      have n_l122 : (n ≤ 122) := by omega
      have e_l122 : decide (n ≤ 122) = true := decide_eq_true n_l122
      have hv := Lib.hid (show R = true by rw [hr.out]; simp only [e_g97, e_l122]; rfl)
      go_enter Tryz.func56, Tryz.ntmps56
      go_wp2
      go_ret
      exact ⟨by rw [hv.out]; rfl, rfl⟩
    · have d_l122 : decide ((n : Int) ≤ 122) = false := decide_eq_false a_l122
      have n_l122 : ¬ (n ≤ 122) := by omega
      have e_l122 : decide (n ≤ 122) = false := decide_eq_false n_l122
      by_cases a_g65 : (65 : Int) ≤ (n : Int)
      · have d_g65 : decide ((65 : Int) ≤ (n : Int)) = true := decide_eq_true a_g65
        have n_g65 : (65 ≤ n) := by omega
        have e_g65 : decide (65 ≤ n) = true := decide_eq_true n_g65
        by_cases a_l90 : (n : Int) ≤ 90
        · have d_l90 : decide ((n : Int) ≤ 90) = true := decide_eq_true a_l90
          have n_l90 : (n ≤ 90) := by omega
          have e_l90 : decide (n ≤ 90) = true := decide_eq_true n_l90
          have hv := Lib.hid (show R = true by rw [hr.out]; simp only [e_g97, e_l122, e_g65, e_l90]; rfl)
          go_enter Tryz.func56, Tryz.ntmps56
          go_wp2
          go_ret
          exact ⟨by rw [hv.out]; rfl, rfl⟩
        · have d_l90 : decide ((n : Int) ≤ 90) = false := decide_eq_false a_l90
          have n_l90 : ¬ (n ≤ 90) := by omega
          have e_l90 : decide (n ≤ 90) = false := decide_eq_false n_l90
          have hv := Lib.hid (show R = false by rw [hr.out]; simp only [e_g97, e_l122, e_g65, e_l90]; rfl)
          go_enter Tryz.func56, Tryz.ntmps56
          go_wp2
          go_ret
          exact ⟨by rw [hv.out]; rfl, rfl⟩
      · have d_g65 : decide ((65 : Int) ≤ (n : Int)) = false := decide_eq_false a_g65
        have n_g65 : ¬ (65 ≤ n) := by omega
        have e_g65 : decide (65 ≤ n) = false := decide_eq_false n_g65
        have hv := Lib.hid (show R = false by rw [hr.out]; simp only [e_g97, e_l122, e_g65]; rfl)
        go_enter Tryz.func56, Tryz.ntmps56
        go_wp2
        go_ret
        exact ⟨by rw [hv.out]; rfl, rfl⟩
  · have d_g97 : decide ((97 : Int) ≤ (n : Int)) = false := decide_eq_false a_g97
    have n_g97 : ¬ (97 ≤ n) := by omega
    have e_g97 : decide (97 ≤ n) = false := decide_eq_false n_g97
    by_cases a_g65 : (65 : Int) ≤ (n : Int)
    · have d_g65 : decide ((65 : Int) ≤ (n : Int)) = true := decide_eq_true a_g65
      have n_g65 : (65 ≤ n) := by omega
      have e_g65 : decide (65 ≤ n) = true := decide_eq_true n_g65
      by_cases a_l90 : (n : Int) ≤ 90
      · have d_l90 : decide ((n : Int) ≤ 90) = true := decide_eq_true a_l90
        have n_l90 : (n ≤ 90) := by omega
        have e_l90 : decide (n ≤ 90) = true := decide_eq_true n_l90
        have hv := Lib.hid (show R = true by rw [hr.out]; simp only [e_g97, e_g65, e_l90]; rfl)
        go_enter Tryz.func56, Tryz.ntmps56
        go_wp2
        go_ret
        exact ⟨by rw [hv.out]; rfl, rfl⟩
      · have d_l90 : decide ((n : Int) ≤ 90) = false := decide_eq_false a_l90
        have n_l90 : ¬ (n ≤ 90) := by omega
        have e_l90 : decide (n ≤ 90) = false := decide_eq_false n_l90
        have hv := Lib.hid (show R = false by rw [hr.out]; simp only [e_g97, e_g65, e_l90]; rfl)
        go_enter Tryz.func56, Tryz.ntmps56
        go_wp2
        go_ret
        exact ⟨by rw [hv.out]; rfl, rfl⟩
    · have d_g65 : decide ((65 : Int) ≤ (n : Int)) = false := decide_eq_false a_g65
      have n_g65 : ¬ (65 ≤ n) := by omega
      have e_g65 : decide (65 ≤ n) = false := decide_eq_false n_g65
      have hv := Lib.hid (show R = false by rw [hr.out]; simp only [e_g97, e_g65]; rfl)
      go_enter Tryz.func56, Tryz.ntmps56
      go_wp2
      go_ret
      exact ⟨by rw [hv.out]; rfl, rfl⟩
theorem rdigit_calls (c : UInt8) (w : World) : Calls Tryz.prog 57 #[.int .u8 (c.toNat : Int)] w fun e w' => e = .returned (.bool (Ch.digit c)) ∧ w = w' := by
  have hr := Lib.hid (show Ch.digit c = (decide (48 ≤ c.toNat) && decide (c.toNat ≤ 57)) from rfl)
  generalize c.toNat = n at *
  generalize Ch.digit c = R at *
  by_cases a_g48 : (48 : Int) ≤ (n : Int)
  · have d_g48 : decide ((48 : Int) ≤ (n : Int)) = true := decide_eq_true a_g48
    have n_g48 : (48 ≤ n) := by omega
    have e_g48 : decide (48 ≤ n) = true := decide_eq_true n_g48
    by_cases a_l57 : (n : Int) ≤ 57
    · have d_l57 : decide ((n : Int) ≤ 57) = true := decide_eq_true a_l57
      have n_l57 : (n ≤ 57) := by omega
      have e_l57 : decide (n ≤ 57) = true := decide_eq_true n_l57
      have hv := Lib.hid (show R = true by rw [hr.out]; simp only [e_g48, e_l57]; rfl)
      go_enter Tryz.func57, Tryz.ntmps57
      go_wp2
      go_ret
      exact ⟨by rw [hv.out]; rfl, rfl⟩
    · have d_l57 : decide ((n : Int) ≤ 57) = false := decide_eq_false a_l57
      have n_l57 : ¬ (n ≤ 57) := by omega
      have e_l57 : decide (n ≤ 57) = false := decide_eq_false n_l57
      have hv := Lib.hid (show R = false by rw [hr.out]; simp only [e_g48, e_l57]; rfl)
      go_enter Tryz.func57, Tryz.ntmps57
      go_wp2
      go_ret
      exact ⟨by rw [hv.out]; rfl, rfl⟩
  · have d_g48 : decide ((48 : Int) ≤ (n : Int)) = false := decide_eq_false a_g48
    have n_g48 : ¬ (48 ≤ n) := by omega
    have e_g48 : decide (48 ≤ n) = false := decide_eq_false n_g48
    have hv := Lib.hid (show R = false by rw [hr.out]; simp only [e_g48]; rfl)
    go_enter Tryz.func57, Tryz.ntmps57
    go_wp2
    go_ret
    exact ⟨by rw [hv.out]; rfl, rfl⟩

set_option maxHeartbeats 8000000 in
theorem rlegal_calls (p s : Int) (l : List UInt8) (i : Int) (w : World) (hl : l.length ≤ maxLen) :
    Calls Tryz.prog 83 #[.int .i64 p, .int .i64 s, .string (str l), .int .i64 i] w fun e w' => e = .returned (.bool (Ch.legI p s l i)) ∧ w = w' := by
  unfold maxLen at hl
  have hsz := str_size l
  by_cases h0 : i < 0
  · have d0 : decide (i < 0) = true := decide_eq_true h0
    have hr := Lib.hid (show Ch.legI p s l i = false by unfold Ch.legI; rw [decide_eq_false (by omega)]; rfl)
    go_enter Tryz.func83, Tryz.ntmps83
    go_wp2
    go_ret
    exact ⟨by rw [hr.out]; rfl, rfl⟩
  obtain ⟨k, rfl⟩ : ∃ k : Nat, i = k := ⟨i.toNat, by omega⟩
  have d0 : decide ((k : Int) < 0) = false := decide_eq_false h0
  by_cases h1 : l.length ≤ k
  · have d1 : decide ((l.length : Int) ≤ (k : Int)) = true := decide_eq_true (by omega)
    have d1' : decide (l.length ≤ k) = true := decide_eq_true h1
    have hr := Lib.hid (show Ch.legI p s l k = false by rw [Ch.legI_at, Ch.leg_out h1])
    go_enter Tryz.func83, Tryz.ntmps83
    go_wp2
    go_ret
    exact ⟨by rw [hr.out]; rfl, rfl⟩
  have hk : k < l.length := by omega
  have hk2 : k < (str l).size := by rw [hsz]; exact hk
  have d1 : decide ((l.length : Int) ≤ (k : Int)) = false := decide_eq_false (by omega)
  have d1' : decide (l.length ≤ k) = false := decide_eq_false h1
  have hlg : Ch.legI p s l k = Ch.legC p s (str l)[k] (decide (0 < k)) (Ch.mid l k) := by rw [Ch.legI_at, Ch.leg_at hk]; rfl
  have HL := Lib.hid hlg
  clear hlg
  by_cases hs : ¬ s = 0 ∧ ¬ s = 1
  · obtain ⟨n0, n1⟩ := hs
    have e0 : decide (s = 0) = false := decide_eq_false n0
    have e1 : decide (s = 1) = false := decide_eq_false n1
    have hss : (s != 0 && s != 1) = true := by simp [n0, n1]
    have hr := Lib.hid (show Ch.legI p s l k = false by rw [HL.out]; exact Ch.legC_off (by omega))
    go_enter Tryz.func83, Tryz.ntmps83
    go_wp2
    go_ret
    exact ⟨by rw [hr.out]; rfl, rfl⟩
  have hs2 : s = 0 ∨ s = 1 := by omega
  clear hs
  have hso := Lib.hid (show (decide (s = 0) || decide (s = 1)) = true by rcases hs2 with rfl | rfl <;> rfl)
  have hlt := fun W => rletter_calls (str l)[k] W
  have hdg := fun W => rdigit_calls (str l)[k] W
  obtain ⟨n, hn⟩ : ∃ n : Nat, (str l)[k].toNat = n := ⟨_, rfl⟩
  rw [hn] at hlt hdg
  obtain ⟨c, hcc⟩ : ∃ c, (str l)[k] = c := ⟨_, rfl⟩
  have HN := Lib.hid (show c.toNat = n by rw [← hcc]; exact hn)
  rw [hcc] at hlt hdg HL
  clear hcc
  rcases hs2 with rfl | rfl
  · skip
    by_cases q1 : p = 1
    · subst q1
      cases hb_lt : Ch.letter c
      · by_cases a_x95 : (n : Int) = 95
        · have d_x95 : decide ((n : Int) = 95) = true := decide_eq_true a_x95
          have b_x95 : ((n : Int) == 95) = true := by simpa using a_x95
          have n_x95 : (n = 95) := by omega
          have e_x95 : decide (n = 95) = true := decide_eq_true n_x95
          have hN_x95 := Lib.hid n_x95
          clear n_x95
          have hA_x95 := Lib.hid a_x95
          clear a_x95
          have hv := Lib.hid (show Ch.legI 1 0 l k = true by
            rw [HL.out, show ∀ B Q, Ch.legC 1 0 c B Q = (((decide ((0 : Int) = 0)) || !(decide ((0 : Int) = 0))) && (Ch.letter c || (decide (c.toNat = 95)) || (B && Ch.digit c) || ((decide ((0 : Int) = 0)) && (decide (c.toNat = 58))))) from fun B Q => by unfold Ch.legC; rfl]
            try simp only [HN.out, hb_lt, e_x95,  Bool.true_or, Bool.or_true, Bool.false_or, Bool.or_false, Bool.true_and, Bool.and_true, Bool.false_and, Bool.and_false, Bool.not_true, Bool.not_false]
            try rfl)
          clear HL hso
          rw [hb_lt] at hlt
          go_enter Tryz.func83, Tryz.ntmps83
          go_wp2_with (first | (go_at_call 56; refine (hlt _).mono ?_; rintro e w1 ⟨rfl, rfl⟩) | (go_at_call 57; refine (hdg _).mono ?_; rintro e w1 ⟨rfl, rfl⟩))
          go_ret
          exact ⟨by rw [hv.out]; first | rfl | (simp only [bne, b_x95]; rfl), rfl⟩
        · have d_x95 : decide ((n : Int) = 95) = false := decide_eq_false a_x95
          have b_x95 : ((n : Int) == 95) = false := by simpa using a_x95
          have n_x95 : ¬ (n = 95) := by omega
          have e_x95 : decide (n = 95) = false := decide_eq_false n_x95
          by_cases a_b : (0 : Int) < (k : Int)
          · have d_b : decide ((0 : Int) < (k : Int)) = true := decide_eq_true a_b
            have n_b : (0 < k) := by omega
            have e_b : decide (0 < k) = true := decide_eq_true n_b
            cases hb_dg : Ch.digit c
            · by_cases a_x58 : (n : Int) = 58
              · have d_x58 : decide ((n : Int) = 58) = true := decide_eq_true a_x58
                have b_x58 : ((n : Int) == 58) = true := by simpa using a_x58
                have n_x58 : (n = 58) := by omega
                have e_x58 : decide (n = 58) = true := decide_eq_true n_x58
                have hN_x58 := Lib.hid n_x58
                clear n_x58
                have hA_x58 := Lib.hid a_x58
                clear a_x58
                have hv := Lib.hid (show Ch.legI 1 0 l k = true by
                  rw [HL.out, show ∀ B Q, Ch.legC 1 0 c B Q = (((decide ((0 : Int) = 0)) || !(decide ((0 : Int) = 0))) && (Ch.letter c || (decide (c.toNat = 95)) || (B && Ch.digit c) || ((decide ((0 : Int) = 0)) && (decide (c.toNat = 58))))) from fun B Q => by unfold Ch.legC; rfl]
                  try simp only [HN.out, hb_lt, e_x95, e_b, hb_dg, e_x58,  Bool.true_or, Bool.or_true, Bool.false_or, Bool.or_false, Bool.true_and, Bool.and_true, Bool.false_and, Bool.and_false, Bool.not_true, Bool.not_false]
                  try rfl)
                clear HL hso
                rw [hb_lt] at hlt
                rw [hb_dg] at hdg
                go_enter Tryz.func83, Tryz.ntmps83
                go_wp2_with (first | (go_at_call 56; refine (hlt _).mono ?_; rintro e w1 ⟨rfl, rfl⟩) | (go_at_call 57; refine (hdg _).mono ?_; rintro e w1 ⟨rfl, rfl⟩))
                go_ret
                exact ⟨by rw [hv.out]; first | rfl | (simp only [bne, b_x95, b_x58]; rfl), rfl⟩
              · have d_x58 : decide ((n : Int) = 58) = false := decide_eq_false a_x58
                have b_x58 : ((n : Int) == 58) = false := by simpa using a_x58
                have n_x58 : ¬ (n = 58) := by omega
                have e_x58 : decide (n = 58) = false := decide_eq_false n_x58
                have hv := Lib.hid (show Ch.legI 1 0 l k = false by
                  rw [HL.out, show ∀ B Q, Ch.legC 1 0 c B Q = (((decide ((0 : Int) = 0)) || !(decide ((0 : Int) = 0))) && (Ch.letter c || (decide (c.toNat = 95)) || (B && Ch.digit c) || ((decide ((0 : Int) = 0)) && (decide (c.toNat = 58))))) from fun B Q => by unfold Ch.legC; rfl]
                  try simp only [HN.out, hb_lt, e_x95, e_b, hb_dg, e_x58,  Bool.true_or, Bool.or_true, Bool.false_or, Bool.or_false, Bool.true_and, Bool.and_true, Bool.false_and, Bool.and_false, Bool.not_true, Bool.not_false]
                  try rfl)
                clear HL hso
                rw [hb_lt] at hlt
                rw [hb_dg] at hdg
                go_enter Tryz.func83, Tryz.ntmps83
                go_wp2_with (first | (go_at_call 56; refine (hlt _).mono ?_; rintro e w1 ⟨rfl, rfl⟩) | (go_at_call 57; refine (hdg _).mono ?_; rintro e w1 ⟨rfl, rfl⟩))
                go_ret
                exact ⟨by rw [hv.out]; first | rfl | (simp only [bne, b_x95, b_x58]; rfl), rfl⟩
            · have hv := Lib.hid (show Ch.legI 1 0 l k = true by
                rw [HL.out, show ∀ B Q, Ch.legC 1 0 c B Q = (((decide ((0 : Int) = 0)) || !(decide ((0 : Int) = 0))) && (Ch.letter c || (decide (c.toNat = 95)) || (B && Ch.digit c) || ((decide ((0 : Int) = 0)) && (decide (c.toNat = 58))))) from fun B Q => by unfold Ch.legC; rfl]
                try simp only [HN.out, hb_lt, e_x95, e_b, hb_dg,  Bool.true_or, Bool.or_true, Bool.false_or, Bool.or_false, Bool.true_and, Bool.and_true, Bool.false_and, Bool.and_false, Bool.not_true, Bool.not_false]
                try rfl)
              clear HL hso
              rw [hb_lt] at hlt
              rw [hb_dg] at hdg
              go_enter Tryz.func83, Tryz.ntmps83
              go_wp2_with (first | (go_at_call 56; refine (hlt _).mono ?_; rintro e w1 ⟨rfl, rfl⟩) | (go_at_call 57; refine (hdg _).mono ?_; rintro e w1 ⟨rfl, rfl⟩))
              go_ret
              exact ⟨by rw [hv.out]; first | rfl | (simp only [bne, b_x95]; rfl), rfl⟩
          · have d_b : decide ((0 : Int) < (k : Int)) = false := decide_eq_false a_b
            have n_b : ¬ (0 < k) := by omega
            have e_b : decide (0 < k) = false := decide_eq_false n_b
            by_cases a_x58 : (n : Int) = 58
            · have d_x58 : decide ((n : Int) = 58) = true := decide_eq_true a_x58
              have b_x58 : ((n : Int) == 58) = true := by simpa using a_x58
              have n_x58 : (n = 58) := by omega
              have e_x58 : decide (n = 58) = true := decide_eq_true n_x58
              have hN_x58 := Lib.hid n_x58
              clear n_x58
              have hA_x58 := Lib.hid a_x58
              clear a_x58
              have hv := Lib.hid (show Ch.legI 1 0 l k = true by
                rw [HL.out, show ∀ B Q, Ch.legC 1 0 c B Q = (((decide ((0 : Int) = 0)) || !(decide ((0 : Int) = 0))) && (Ch.letter c || (decide (c.toNat = 95)) || (B && Ch.digit c) || ((decide ((0 : Int) = 0)) && (decide (c.toNat = 58))))) from fun B Q => by unfold Ch.legC; rfl]
                try simp only [HN.out, hb_lt, e_x95, e_b, e_x58,  Bool.true_or, Bool.or_true, Bool.false_or, Bool.or_false, Bool.true_and, Bool.and_true, Bool.false_and, Bool.and_false, Bool.not_true, Bool.not_false]
                try rfl)
              clear HL hso
              rw [hb_lt] at hlt
              go_enter Tryz.func83, Tryz.ntmps83
              go_wp2_with (first | (go_at_call 56; refine (hlt _).mono ?_; rintro e w1 ⟨rfl, rfl⟩) | (go_at_call 57; refine (hdg _).mono ?_; rintro e w1 ⟨rfl, rfl⟩))
              go_ret
              exact ⟨by rw [hv.out]; first | rfl | (simp only [bne, b_x95, b_x58]; rfl), rfl⟩
            · have d_x58 : decide ((n : Int) = 58) = false := decide_eq_false a_x58
              have b_x58 : ((n : Int) == 58) = false := by simpa using a_x58
              have n_x58 : ¬ (n = 58) := by omega
              have e_x58 : decide (n = 58) = false := decide_eq_false n_x58
              have hv := Lib.hid (show Ch.legI 1 0 l k = false by
                rw [HL.out, show ∀ B Q, Ch.legC 1 0 c B Q = (((decide ((0 : Int) = 0)) || !(decide ((0 : Int) = 0))) && (Ch.letter c || (decide (c.toNat = 95)) || (B && Ch.digit c) || ((decide ((0 : Int) = 0)) && (decide (c.toNat = 58))))) from fun B Q => by unfold Ch.legC; rfl]
                try simp only [HN.out, hb_lt, e_x95, e_b, e_x58,  Bool.true_or, Bool.or_true, Bool.false_or, Bool.or_false, Bool.true_and, Bool.and_true, Bool.false_and, Bool.and_false, Bool.not_true, Bool.not_false]
                try rfl)
              clear HL hso
              rw [hb_lt] at hlt
              go_enter Tryz.func83, Tryz.ntmps83
              go_wp2_with (first | (go_at_call 56; refine (hlt _).mono ?_; rintro e w1 ⟨rfl, rfl⟩) | (go_at_call 57; refine (hdg _).mono ?_; rintro e w1 ⟨rfl, rfl⟩))
              go_ret
              exact ⟨by rw [hv.out]; first | rfl | (simp only [bne, b_x95, b_x58]; rfl), rfl⟩
      · have hv := Lib.hid (show Ch.legI 1 0 l k = true by
          rw [HL.out, show ∀ B Q, Ch.legC 1 0 c B Q = (((decide ((0 : Int) = 0)) || !(decide ((0 : Int) = 0))) && (Ch.letter c || (decide (c.toNat = 95)) || (B && Ch.digit c) || ((decide ((0 : Int) = 0)) && (decide (c.toNat = 58))))) from fun B Q => by unfold Ch.legC; rfl]
          try simp only [HN.out, hb_lt,  Bool.true_or, Bool.or_true, Bool.false_or, Bool.or_false, Bool.true_and, Bool.and_true, Bool.false_and, Bool.and_false, Bool.not_true, Bool.not_false]
          try rfl)
        clear HL hso
        rw [hb_lt] at hlt
        go_enter Tryz.func83, Tryz.ntmps83
        go_wp2_with (first | (go_at_call 56; refine (hlt _).mono ?_; rintro e w1 ⟨rfl, rfl⟩) | (go_at_call 57; refine (hdg _).mono ?_; rintro e w1 ⟨rfl, rfl⟩))
        go_ret
        exact ⟨by rw [hv.out]; first | rfl | (simp only [bne]; rfl), rfl⟩
    by_cases q2 : p = 2
    · subst q2
      by_cases a_g32 : (32 : Int) ≤ (n : Int)
      · have d_g32 : decide ((32 : Int) ≤ (n : Int)) = true := decide_eq_true a_g32
        have n_g32 : (32 ≤ n) := by omega
        have e_g32 : decide (32 ≤ n) = true := decide_eq_true n_g32
        by_cases a_l126 : (n : Int) ≤ 126
        · have d_l126 : decide ((n : Int) ≤ 126) = true := decide_eq_true a_l126
          have n_l126 : (n ≤ 126) := by omega
          have e_l126 : decide (n ≤ 126) = true := decide_eq_true n_l126
          by_cases a_x92 : (n : Int) = 92
          · have d_x92 : decide ((n : Int) = 92) = true := decide_eq_true a_x92
            have b_x92 : ((n : Int) == 92) = true := by simpa using a_x92
            have n_x92 : (n = 92) := by omega
            have e_x92 : decide (n = 92) = true := decide_eq_true n_x92
            have hN_x92 := Lib.hid n_x92
            clear n_x92
            have hA_x92 := Lib.hid a_x92
            clear a_x92
            have hv := Lib.hid (show Ch.legI 2 0 l k = false by
              rw [HL.out, show ∀ B Q, Ch.legC 2 0 c B Q = (((decide ((0 : Int) = 0)) || !(decide ((0 : Int) = 0))) && (((decide (32 ≤ c.toNat)) && (decide (c.toNat ≤ 126)) && !(decide (c.toNat = 92))) && !(!B && (decide (c.toNat = 35)) && (decide ((0 : Int) = 0))))) from fun B Q => by unfold Ch.legC Ch.line; rfl]
              try simp only [HN.out, e_g32, e_l126, e_x92,  Bool.true_or, Bool.or_true, Bool.false_or, Bool.or_false, Bool.true_and, Bool.and_true, Bool.false_and, Bool.and_false, Bool.not_true, Bool.not_false]
              try rfl)
            clear HL hso
            go_enter Tryz.func83, Tryz.ntmps83
            go_wp2_with (first | (go_at_call 56; refine (hlt _).mono ?_; rintro e w1 ⟨rfl, rfl⟩) | (go_at_call 57; refine (hdg _).mono ?_; rintro e w1 ⟨rfl, rfl⟩))
            go_ret
            exact ⟨by rw [hv.out]; first | rfl | (simp only [bne, b_x92]; rfl), rfl⟩
          · have d_x92 : decide ((n : Int) = 92) = false := decide_eq_false a_x92
            have b_x92 : ((n : Int) == 92) = false := by simpa using a_x92
            have n_x92 : ¬ (n = 92) := by omega
            have e_x92 : decide (n = 92) = false := decide_eq_false n_x92
            by_cases a_z : (k : Int) = 0
            · have d_z : decide ((k : Int) = 0) = true := decide_eq_true a_z
              have b_z : ((k : Int) == 0) = true := by simpa using a_z
              have n_z : (k = 0) := by omega
              have e_z : decide (k = 0) = true := decide_eq_true n_z
              have hN_z := Lib.hid n_z
              clear n_z
              have hA_z := Lib.hid a_z
              clear a_z
              have eb_z : decide (0 < k) = false := decide_eq_false (by have := hN_z.out; omega)
              by_cases a_x35 : (n : Int) = 35
              · have d_x35 : decide ((n : Int) = 35) = true := decide_eq_true a_x35
                have b_x35 : ((n : Int) == 35) = true := by simpa using a_x35
                have n_x35 : (n = 35) := by omega
                have e_x35 : decide (n = 35) = true := decide_eq_true n_x35
                have hN_x35 := Lib.hid n_x35
                clear n_x35
                have hA_x35 := Lib.hid a_x35
                clear a_x35
                have hv := Lib.hid (show Ch.legI 2 0 l k = false by
                  rw [HL.out, show ∀ B Q, Ch.legC 2 0 c B Q = (((decide ((0 : Int) = 0)) || !(decide ((0 : Int) = 0))) && (((decide (32 ≤ c.toNat)) && (decide (c.toNat ≤ 126)) && !(decide (c.toNat = 92))) && !(!B && (decide (c.toNat = 35)) && (decide ((0 : Int) = 0))))) from fun B Q => by unfold Ch.legC Ch.line; rfl]
                  try simp only [HN.out, e_g32, e_l126, e_x92, eb_z, e_x35,  Bool.true_or, Bool.or_true, Bool.false_or, Bool.or_false, Bool.true_and, Bool.and_true, Bool.false_and, Bool.and_false, Bool.not_true, Bool.not_false]
                  try rfl)
                clear HL hso
                go_enter Tryz.func83, Tryz.ntmps83
                go_wp2_with (first | (go_at_call 56; refine (hlt _).mono ?_; rintro e w1 ⟨rfl, rfl⟩) | (go_at_call 57; refine (hdg _).mono ?_; rintro e w1 ⟨rfl, rfl⟩))
                go_ret
                exact ⟨by rw [hv.out]; first | rfl | (simp only [bne, b_x92, b_z, b_x35]; rfl), rfl⟩
              · have d_x35 : decide ((n : Int) = 35) = false := decide_eq_false a_x35
                have b_x35 : ((n : Int) == 35) = false := by simpa using a_x35
                have n_x35 : ¬ (n = 35) := by omega
                have e_x35 : decide (n = 35) = false := decide_eq_false n_x35
                have hv := Lib.hid (show Ch.legI 2 0 l k = true by
                  rw [HL.out, show ∀ B Q, Ch.legC 2 0 c B Q = (((decide ((0 : Int) = 0)) || !(decide ((0 : Int) = 0))) && (((decide (32 ≤ c.toNat)) && (decide (c.toNat ≤ 126)) && !(decide (c.toNat = 92))) && !(!B && (decide (c.toNat = 35)) && (decide ((0 : Int) = 0))))) from fun B Q => by unfold Ch.legC Ch.line; rfl]
                  try simp only [HN.out, e_g32, e_l126, e_x92, eb_z, e_x35,  Bool.true_or, Bool.or_true, Bool.false_or, Bool.or_false, Bool.true_and, Bool.and_true, Bool.false_and, Bool.and_false, Bool.not_true, Bool.not_false]
                  try rfl)
                clear HL hso
                go_enter Tryz.func83, Tryz.ntmps83
                go_wp2_with (first | (go_at_call 56; refine (hlt _).mono ?_; rintro e w1 ⟨rfl, rfl⟩) | (go_at_call 57; refine (hdg _).mono ?_; rintro e w1 ⟨rfl, rfl⟩))
                go_ret
                exact ⟨by rw [hv.out]; first | rfl | (simp only [bne, b_x92, b_z, b_x35]; rfl), rfl⟩
            · have d_z : decide ((k : Int) = 0) = false := decide_eq_false a_z
              have b_z : ((k : Int) == 0) = false := by simpa using a_z
              have n_z : ¬ (k = 0) := by omega
              have e_z : decide (k = 0) = false := decide_eq_false n_z
              have eb_z : decide (0 < k) = true := decide_eq_true (by omega)
              have hv := Lib.hid (show Ch.legI 2 0 l k = true by
                rw [HL.out, show ∀ B Q, Ch.legC 2 0 c B Q = (((decide ((0 : Int) = 0)) || !(decide ((0 : Int) = 0))) && (((decide (32 ≤ c.toNat)) && (decide (c.toNat ≤ 126)) && !(decide (c.toNat = 92))) && !(!B && (decide (c.toNat = 35)) && (decide ((0 : Int) = 0))))) from fun B Q => by unfold Ch.legC Ch.line; rfl]
                try simp only [HN.out, e_g32, e_l126, e_x92, eb_z,  Bool.true_or, Bool.or_true, Bool.false_or, Bool.or_false, Bool.true_and, Bool.and_true, Bool.false_and, Bool.and_false, Bool.not_true, Bool.not_false]
                try rfl)
              clear HL hso
              go_enter Tryz.func83, Tryz.ntmps83
              go_wp2_with (first | (go_at_call 56; refine (hlt _).mono ?_; rintro e w1 ⟨rfl, rfl⟩) | (go_at_call 57; refine (hdg _).mono ?_; rintro e w1 ⟨rfl, rfl⟩))
              go_ret
              exact ⟨by rw [hv.out]; first | rfl | (simp only [bne, b_x92, b_z]; rfl), rfl⟩
        · have d_l126 : decide ((n : Int) ≤ 126) = false := decide_eq_false a_l126
          have n_l126 : ¬ (n ≤ 126) := by omega
          have e_l126 : decide (n ≤ 126) = false := decide_eq_false n_l126
          have hv := Lib.hid (show Ch.legI 2 0 l k = false by
            rw [HL.out, show ∀ B Q, Ch.legC 2 0 c B Q = (((decide ((0 : Int) = 0)) || !(decide ((0 : Int) = 0))) && (((decide (32 ≤ c.toNat)) && (decide (c.toNat ≤ 126)) && !(decide (c.toNat = 92))) && !(!B && (decide (c.toNat = 35)) && (decide ((0 : Int) = 0))))) from fun B Q => by unfold Ch.legC Ch.line; rfl]
            try simp only [HN.out, e_g32, e_l126,  Bool.true_or, Bool.or_true, Bool.false_or, Bool.or_false, Bool.true_and, Bool.and_true, Bool.false_and, Bool.and_false, Bool.not_true, Bool.not_false]
            try rfl)
          clear HL hso
          go_enter Tryz.func83, Tryz.ntmps83
          go_wp2_with (first | (go_at_call 56; refine (hlt _).mono ?_; rintro e w1 ⟨rfl, rfl⟩) | (go_at_call 57; refine (hdg _).mono ?_; rintro e w1 ⟨rfl, rfl⟩))
          go_ret
          exact ⟨by rw [hv.out]; first | rfl | (simp only [bne]; rfl), rfl⟩
      · have d_g32 : decide ((32 : Int) ≤ (n : Int)) = false := decide_eq_false a_g32
        have n_g32 : ¬ (32 ≤ n) := by omega
        have e_g32 : decide (32 ≤ n) = false := decide_eq_false n_g32
        have hv := Lib.hid (show Ch.legI 2 0 l k = false by
          rw [HL.out, show ∀ B Q, Ch.legC 2 0 c B Q = (((decide ((0 : Int) = 0)) || !(decide ((0 : Int) = 0))) && (((decide (32 ≤ c.toNat)) && (decide (c.toNat ≤ 126)) && !(decide (c.toNat = 92))) && !(!B && (decide (c.toNat = 35)) && (decide ((0 : Int) = 0))))) from fun B Q => by unfold Ch.legC Ch.line; rfl]
          try simp only [HN.out, e_g32,  Bool.true_or, Bool.or_true, Bool.false_or, Bool.or_false, Bool.true_and, Bool.and_true, Bool.false_and, Bool.and_false, Bool.not_true, Bool.not_false]
          try rfl)
        clear HL hso
        go_enter Tryz.func83, Tryz.ntmps83
        go_wp2_with (first | (go_at_call 56; refine (hlt _).mono ?_; rintro e w1 ⟨rfl, rfl⟩) | (go_at_call 57; refine (hdg _).mono ?_; rintro e w1 ⟨rfl, rfl⟩))
        go_ret
        exact ⟨by rw [hv.out]; first | rfl | (simp only [bne]; rfl), rfl⟩
    by_cases q3 : p = 3
    · subst q3
      by_cases a_x46 : (n : Int) = 46
      · have d_x46 : decide ((n : Int) = 46) = true := decide_eq_true a_x46
        have b_x46 : ((n : Int) == 46) = true := by simpa using a_x46
        have n_x46 : (n = 46) := by omega
        have e_x46 : decide (n = 46) = true := decide_eq_true n_x46
        have hN_x46 := Lib.hid n_x46
        clear n_x46
        have hA_x46 := Lib.hid a_x46
        clear a_x46
        by_cases a_b : (0 : Int) < (k : Int)
        · have d_b : decide ((0 : Int) < (k : Int)) = true := decide_eq_true a_b
          have n_b : (0 < k) := by omega
          have e_b : decide (0 < k) = true := decide_eq_true n_b
          have hat : k - 1 < (str l).size := by rw [hsz]; omega
          have hjk : (k : Int) - 1 = ((k - 1 : Nat) : Int) := by omega
          by_cases a_k1 : (k : Int) < (l.length : Int) - 1
          · have d_k1 : decide ((k : Int) < (l.length : Int) - 1) = true := decide_eq_true a_k1
            have n_k1 : (k + 1 < l.length) := by omega
            have e_k1 : decide (k + 1 < l.length) = true := decide_eq_true n_k1
            by_cases a_m46 : ((str l)[k - 1].toNat : Int) = 46
            · have d_m46 : decide (((str l)[k - 1].toNat : Int) = 46) = true := decide_eq_true a_m46
              have b_m46 : (((str l)[k - 1].toNat : Int) == 46) = true := by simpa using a_m46
              have hA_m46 := Lib.hid a_m46
              clear a_m46
              have hm46 := Lib.hid (show ((l.getD (k - 1) 0).toNat = 46) by
                have hh : (l.getD (k - 1) 0).toNat = (str l)[k - 1].toNat := by rw [List.getD_eq_getElem?_getD, List.getElem?_eq_getElem (by rw [hsz] at hat; exact hat)]; rfl
                rw [hh]; have := hA_m46.out; omega)
              have hmid := Lib.hid (show Ch.mid l k = false by unfold Ch.mid; rw [decide_eq_true n_b, decide_eq_true n_k1, decide_eq_true hm46.out]; rfl)
              have hv := Lib.hid (show Ch.legI 3 0 l k = false by
                rw [HL.out, show ∀ B Q, Ch.legC 3 0 c B Q = (((decide ((0 : Int) = 0)) || !(decide ((0 : Int) = 0))) && (if c.toNat = 46 then (decide ((0 : Int) = 0)) && Q else Ch.letter c || Ch.digit c || (decide (c.toNat = 95)) || (decide (c.toNat = 45)) || (decide (c.toNat = 58)))) from fun B Q => by unfold Ch.legC; rfl]
                rw [if_pos (show c.toNat = 46 from by rw [HN.out]; exact hN_x46.out)]
                try simp only [HN.out, hmid.out,  Bool.true_or, Bool.or_true, Bool.false_or, Bool.or_false, Bool.true_and, Bool.and_true, Bool.false_and, Bool.and_false, Bool.not_true, Bool.not_false]
                try rfl)
              clear HL hso
              go_enter Tryz.func83, Tryz.ntmps83
              go_wp2_with (first | (go_at_call 56; refine (hlt _).mono ?_; rintro e w1 ⟨rfl, rfl⟩) | (go_at_call 57; refine (hdg _).mono ?_; rintro e w1 ⟨rfl, rfl⟩))
              go_ret
              exact ⟨by rw [hv.out]; first | rfl | (simp only [bne, b_x46, b_m46]; rfl), rfl⟩
            · have d_m46 : decide (((str l)[k - 1].toNat : Int) = 46) = false := decide_eq_false a_m46
              have b_m46 : (((str l)[k - 1].toNat : Int) == 46) = false := by simpa using a_m46
              have hm46 := Lib.hid (show ¬ ((l.getD (k - 1) 0).toNat = 46) by
                have hh : (l.getD (k - 1) 0).toNat = (str l)[k - 1].toNat := by rw [List.getD_eq_getElem?_getD, List.getElem?_eq_getElem (by rw [hsz] at hat; exact hat)]; rfl
                rw [hh]; have := a_m46; omega)
              have hmid := Lib.hid (show Ch.mid l k = true by unfold Ch.mid; rw [decide_eq_true n_b, decide_eq_true n_k1, decide_eq_false hm46.out]; rfl)
              have hv := Lib.hid (show Ch.legI 3 0 l k = true by
                rw [HL.out, show ∀ B Q, Ch.legC 3 0 c B Q = (((decide ((0 : Int) = 0)) || !(decide ((0 : Int) = 0))) && (if c.toNat = 46 then (decide ((0 : Int) = 0)) && Q else Ch.letter c || Ch.digit c || (decide (c.toNat = 95)) || (decide (c.toNat = 45)) || (decide (c.toNat = 58)))) from fun B Q => by unfold Ch.legC; rfl]
                rw [if_pos (show c.toNat = 46 from by rw [HN.out]; exact hN_x46.out)]
                try simp only [HN.out, hmid.out,  Bool.true_or, Bool.or_true, Bool.false_or, Bool.or_false, Bool.true_and, Bool.and_true, Bool.false_and, Bool.and_false, Bool.not_true, Bool.not_false]
                try rfl)
              clear HL hso
              go_enter Tryz.func83, Tryz.ntmps83
              go_wp2_with (first | (go_at_call 56; refine (hlt _).mono ?_; rintro e w1 ⟨rfl, rfl⟩) | (go_at_call 57; refine (hdg _).mono ?_; rintro e w1 ⟨rfl, rfl⟩))
              go_ret
              exact ⟨by rw [hv.out]; first | rfl | (simp only [bne, b_x46, b_m46]; rfl), rfl⟩
          · have d_k1 : decide ((k : Int) < (l.length : Int) - 1) = false := decide_eq_false a_k1
            have n_k1 : ¬ (k + 1 < l.length) := by omega
            have e_k1 : decide (k + 1 < l.length) = false := decide_eq_false n_k1
            have hmid := Lib.hid (show Ch.mid l k = false by unfold Ch.mid; rw [decide_eq_false n_k1]; simp)
            have hv := Lib.hid (show Ch.legI 3 0 l k = false by
              rw [HL.out, show ∀ B Q, Ch.legC 3 0 c B Q = (((decide ((0 : Int) = 0)) || !(decide ((0 : Int) = 0))) && (if c.toNat = 46 then (decide ((0 : Int) = 0)) && Q else Ch.letter c || Ch.digit c || (decide (c.toNat = 95)) || (decide (c.toNat = 45)) || (decide (c.toNat = 58)))) from fun B Q => by unfold Ch.legC; rfl]
              rw [if_pos (show c.toNat = 46 from by rw [HN.out]; exact hN_x46.out)]
              try simp only [HN.out, hmid.out,  Bool.true_or, Bool.or_true, Bool.false_or, Bool.or_false, Bool.true_and, Bool.and_true, Bool.false_and, Bool.and_false, Bool.not_true, Bool.not_false]
              try rfl)
            clear HL hso
            go_enter Tryz.func83, Tryz.ntmps83
            go_wp2_with (first | (go_at_call 56; refine (hlt _).mono ?_; rintro e w1 ⟨rfl, rfl⟩) | (go_at_call 57; refine (hdg _).mono ?_; rintro e w1 ⟨rfl, rfl⟩))
            go_ret
            exact ⟨by rw [hv.out]; first | rfl | (simp only [bne, b_x46]; rfl), rfl⟩
        · have d_b : decide ((0 : Int) < (k : Int)) = false := decide_eq_false a_b
          have n_b : ¬ (0 < k) := by omega
          have e_b : decide (0 < k) = false := decide_eq_false n_b
          have hmid := Lib.hid (show Ch.mid l k = false by unfold Ch.mid; rw [decide_eq_false n_b]; rfl)
          have hv := Lib.hid (show Ch.legI 3 0 l k = false by
            rw [HL.out, show ∀ B Q, Ch.legC 3 0 c B Q = (((decide ((0 : Int) = 0)) || !(decide ((0 : Int) = 0))) && (if c.toNat = 46 then (decide ((0 : Int) = 0)) && Q else Ch.letter c || Ch.digit c || (decide (c.toNat = 95)) || (decide (c.toNat = 45)) || (decide (c.toNat = 58)))) from fun B Q => by unfold Ch.legC; rfl]
            rw [if_pos (show c.toNat = 46 from by rw [HN.out]; exact hN_x46.out)]
            try simp only [HN.out, hmid.out,  Bool.true_or, Bool.or_true, Bool.false_or, Bool.or_false, Bool.true_and, Bool.and_true, Bool.false_and, Bool.and_false, Bool.not_true, Bool.not_false]
            try rfl)
          clear HL hso
          go_enter Tryz.func83, Tryz.ntmps83
          go_wp2_with (first | (go_at_call 56; refine (hlt _).mono ?_; rintro e w1 ⟨rfl, rfl⟩) | (go_at_call 57; refine (hdg _).mono ?_; rintro e w1 ⟨rfl, rfl⟩))
          go_ret
          exact ⟨by rw [hv.out]; first | rfl | (simp only [bne, b_x46]; rfl), rfl⟩
      · have d_x46 : decide ((n : Int) = 46) = false := decide_eq_false a_x46
        have b_x46 : ((n : Int) == 46) = false := by simpa using a_x46
        have n_x46 : ¬ (n = 46) := by omega
        have e_x46 : decide (n = 46) = false := decide_eq_false n_x46
        cases hb_lt : Ch.letter c
        · cases hb_dg : Ch.digit c
          · by_cases a_x95 : (n : Int) = 95
            · have d_x95 : decide ((n : Int) = 95) = true := decide_eq_true a_x95
              have b_x95 : ((n : Int) == 95) = true := by simpa using a_x95
              have n_x95 : (n = 95) := by omega
              have e_x95 : decide (n = 95) = true := decide_eq_true n_x95
              have hN_x95 := Lib.hid n_x95
              clear n_x95
              have hA_x95 := Lib.hid a_x95
              clear a_x95
              have hv := Lib.hid (show Ch.legI 3 0 l k = true by
                rw [HL.out, show ∀ B Q, Ch.legC 3 0 c B Q = (((decide ((0 : Int) = 0)) || !(decide ((0 : Int) = 0))) && (if c.toNat = 46 then (decide ((0 : Int) = 0)) && Q else Ch.letter c || Ch.digit c || (decide (c.toNat = 95)) || (decide (c.toNat = 45)) || (decide (c.toNat = 58)))) from fun B Q => by unfold Ch.legC; rfl]
                rw [if_neg (show ¬ c.toNat = 46 from by rw [HN.out]; exact n_x46)]
                try simp only [HN.out, hb_lt, hb_dg, e_x95,  Bool.true_or, Bool.or_true, Bool.false_or, Bool.or_false, Bool.true_and, Bool.and_true, Bool.false_and, Bool.and_false, Bool.not_true, Bool.not_false]
                try rfl)
              clear HL hso
              rw [hb_lt] at hlt
              rw [hb_dg] at hdg
              go_enter Tryz.func83, Tryz.ntmps83
              go_wp2_with (first | (go_at_call 56; refine (hlt _).mono ?_; rintro e w1 ⟨rfl, rfl⟩) | (go_at_call 57; refine (hdg _).mono ?_; rintro e w1 ⟨rfl, rfl⟩))
              go_ret
              exact ⟨by rw [hv.out]; first | rfl | (simp only [bne, b_x46, b_x95]; rfl), rfl⟩
            · have d_x95 : decide ((n : Int) = 95) = false := decide_eq_false a_x95
              have b_x95 : ((n : Int) == 95) = false := by simpa using a_x95
              have n_x95 : ¬ (n = 95) := by omega
              have e_x95 : decide (n = 95) = false := decide_eq_false n_x95
              by_cases a_x45 : (n : Int) = 45
              · have d_x45 : decide ((n : Int) = 45) = true := decide_eq_true a_x45
                have b_x45 : ((n : Int) == 45) = true := by simpa using a_x45
                have n_x45 : (n = 45) := by omega
                have e_x45 : decide (n = 45) = true := decide_eq_true n_x45
                have hN_x45 := Lib.hid n_x45
                clear n_x45
                have hA_x45 := Lib.hid a_x45
                clear a_x45
                have hv := Lib.hid (show Ch.legI 3 0 l k = true by
                  rw [HL.out, show ∀ B Q, Ch.legC 3 0 c B Q = (((decide ((0 : Int) = 0)) || !(decide ((0 : Int) = 0))) && (if c.toNat = 46 then (decide ((0 : Int) = 0)) && Q else Ch.letter c || Ch.digit c || (decide (c.toNat = 95)) || (decide (c.toNat = 45)) || (decide (c.toNat = 58)))) from fun B Q => by unfold Ch.legC; rfl]
                  rw [if_neg (show ¬ c.toNat = 46 from by rw [HN.out]; exact n_x46)]
                  try simp only [HN.out, hb_lt, hb_dg, e_x95, e_x45,  Bool.true_or, Bool.or_true, Bool.false_or, Bool.or_false, Bool.true_and, Bool.and_true, Bool.false_and, Bool.and_false, Bool.not_true, Bool.not_false]
                  try rfl)
                clear HL hso
                rw [hb_lt] at hlt
                rw [hb_dg] at hdg
                go_enter Tryz.func83, Tryz.ntmps83
                go_wp2_with (first | (go_at_call 56; refine (hlt _).mono ?_; rintro e w1 ⟨rfl, rfl⟩) | (go_at_call 57; refine (hdg _).mono ?_; rintro e w1 ⟨rfl, rfl⟩))
                go_ret
                exact ⟨by rw [hv.out]; first | rfl | (simp only [bne, b_x46, b_x95, b_x45]; rfl), rfl⟩
              · have d_x45 : decide ((n : Int) = 45) = false := decide_eq_false a_x45
                have b_x45 : ((n : Int) == 45) = false := by simpa using a_x45
                have n_x45 : ¬ (n = 45) := by omega
                have e_x45 : decide (n = 45) = false := decide_eq_false n_x45
                by_cases a_x58 : (n : Int) = 58
                · have d_x58 : decide ((n : Int) = 58) = true := decide_eq_true a_x58
                  have b_x58 : ((n : Int) == 58) = true := by simpa using a_x58
                  have n_x58 : (n = 58) := by omega
                  have e_x58 : decide (n = 58) = true := decide_eq_true n_x58
                  have hN_x58 := Lib.hid n_x58
                  clear n_x58
                  have hA_x58 := Lib.hid a_x58
                  clear a_x58
                  have hv := Lib.hid (show Ch.legI 3 0 l k = true by
                    rw [HL.out, show ∀ B Q, Ch.legC 3 0 c B Q = (((decide ((0 : Int) = 0)) || !(decide ((0 : Int) = 0))) && (if c.toNat = 46 then (decide ((0 : Int) = 0)) && Q else Ch.letter c || Ch.digit c || (decide (c.toNat = 95)) || (decide (c.toNat = 45)) || (decide (c.toNat = 58)))) from fun B Q => by unfold Ch.legC; rfl]
                    rw [if_neg (show ¬ c.toNat = 46 from by rw [HN.out]; exact n_x46)]
                    try simp only [HN.out, hb_lt, hb_dg, e_x95, e_x45, e_x58,  Bool.true_or, Bool.or_true, Bool.false_or, Bool.or_false, Bool.true_and, Bool.and_true, Bool.false_and, Bool.and_false, Bool.not_true, Bool.not_false]
                    try rfl)
                  clear HL hso
                  rw [hb_lt] at hlt
                  rw [hb_dg] at hdg
                  go_enter Tryz.func83, Tryz.ntmps83
                  go_wp2_with (first | (go_at_call 56; refine (hlt _).mono ?_; rintro e w1 ⟨rfl, rfl⟩) | (go_at_call 57; refine (hdg _).mono ?_; rintro e w1 ⟨rfl, rfl⟩))
                  go_ret
                  exact ⟨by rw [hv.out]; first | rfl | (simp only [bne, b_x46, b_x95, b_x45, b_x58]; rfl), rfl⟩
                · have d_x58 : decide ((n : Int) = 58) = false := decide_eq_false a_x58
                  have b_x58 : ((n : Int) == 58) = false := by simpa using a_x58
                  have n_x58 : ¬ (n = 58) := by omega
                  have e_x58 : decide (n = 58) = false := decide_eq_false n_x58
                  have hv := Lib.hid (show Ch.legI 3 0 l k = false by
                    rw [HL.out, show ∀ B Q, Ch.legC 3 0 c B Q = (((decide ((0 : Int) = 0)) || !(decide ((0 : Int) = 0))) && (if c.toNat = 46 then (decide ((0 : Int) = 0)) && Q else Ch.letter c || Ch.digit c || (decide (c.toNat = 95)) || (decide (c.toNat = 45)) || (decide (c.toNat = 58)))) from fun B Q => by unfold Ch.legC; rfl]
                    rw [if_neg (show ¬ c.toNat = 46 from by rw [HN.out]; exact n_x46)]
                    try simp only [HN.out, hb_lt, hb_dg, e_x95, e_x45, e_x58,  Bool.true_or, Bool.or_true, Bool.false_or, Bool.or_false, Bool.true_and, Bool.and_true, Bool.false_and, Bool.and_false, Bool.not_true, Bool.not_false]
                    try rfl)
                  clear HL hso
                  rw [hb_lt] at hlt
                  rw [hb_dg] at hdg
                  go_enter Tryz.func83, Tryz.ntmps83
                  go_wp2_with (first | (go_at_call 56; refine (hlt _).mono ?_; rintro e w1 ⟨rfl, rfl⟩) | (go_at_call 57; refine (hdg _).mono ?_; rintro e w1 ⟨rfl, rfl⟩))
                  go_ret
                  exact ⟨by rw [hv.out]; first | rfl | (simp only [bne, b_x46, b_x95, b_x45, b_x58]; rfl), rfl⟩
          · have hv := Lib.hid (show Ch.legI 3 0 l k = true by
              rw [HL.out, show ∀ B Q, Ch.legC 3 0 c B Q = (((decide ((0 : Int) = 0)) || !(decide ((0 : Int) = 0))) && (if c.toNat = 46 then (decide ((0 : Int) = 0)) && Q else Ch.letter c || Ch.digit c || (decide (c.toNat = 95)) || (decide (c.toNat = 45)) || (decide (c.toNat = 58)))) from fun B Q => by unfold Ch.legC; rfl]
              rw [if_neg (show ¬ c.toNat = 46 from by rw [HN.out]; exact n_x46)]
              try simp only [HN.out, hb_lt, hb_dg,  Bool.true_or, Bool.or_true, Bool.false_or, Bool.or_false, Bool.true_and, Bool.and_true, Bool.false_and, Bool.and_false, Bool.not_true, Bool.not_false]
              try rfl)
            clear HL hso
            rw [hb_lt] at hlt
            rw [hb_dg] at hdg
            go_enter Tryz.func83, Tryz.ntmps83
            go_wp2_with (first | (go_at_call 56; refine (hlt _).mono ?_; rintro e w1 ⟨rfl, rfl⟩) | (go_at_call 57; refine (hdg _).mono ?_; rintro e w1 ⟨rfl, rfl⟩))
            go_ret
            exact ⟨by rw [hv.out]; first | rfl | (simp only [bne, b_x46]; rfl), rfl⟩
        · have hv := Lib.hid (show Ch.legI 3 0 l k = true by
            rw [HL.out, show ∀ B Q, Ch.legC 3 0 c B Q = (((decide ((0 : Int) = 0)) || !(decide ((0 : Int) = 0))) && (if c.toNat = 46 then (decide ((0 : Int) = 0)) && Q else Ch.letter c || Ch.digit c || (decide (c.toNat = 95)) || (decide (c.toNat = 45)) || (decide (c.toNat = 58)))) from fun B Q => by unfold Ch.legC; rfl]
            rw [if_neg (show ¬ c.toNat = 46 from by rw [HN.out]; exact n_x46)]
            try simp only [HN.out, hb_lt,  Bool.true_or, Bool.or_true, Bool.false_or, Bool.or_false, Bool.true_and, Bool.and_true, Bool.false_and, Bool.and_false, Bool.not_true, Bool.not_false]
            try rfl)
          clear HL hso
          rw [hb_lt] at hlt
          go_enter Tryz.func83, Tryz.ntmps83
          go_wp2_with (first | (go_at_call 56; refine (hlt _).mono ?_; rintro e w1 ⟨rfl, rfl⟩) | (go_at_call 57; refine (hdg _).mono ?_; rintro e w1 ⟨rfl, rfl⟩))
          go_ret
          exact ⟨by rw [hv.out]; first | rfl | (simp only [bne, b_x46]; rfl), rfl⟩
    by_cases q4 : p = 4
    · subst q4
      cases hb_lt : Ch.letter c
      · cases hb_dg : Ch.digit c
        · by_cases a_x95 : (n : Int) = 95
          · have d_x95 : decide ((n : Int) = 95) = true := decide_eq_true a_x95
            have b_x95 : ((n : Int) == 95) = true := by simpa using a_x95
            have n_x95 : (n = 95) := by omega
            have e_x95 : decide (n = 95) = true := decide_eq_true n_x95
            have hN_x95 := Lib.hid n_x95
            clear n_x95
            have hA_x95 := Lib.hid a_x95
            clear a_x95
            have hv := Lib.hid (show Ch.legI 4 0 l k = true by
              rw [HL.out, show ∀ B Q, Ch.legC 4 0 c B Q = (((decide ((0 : Int) = 0)) || !(decide ((0 : Int) = 0))) && (Ch.letter c || Ch.digit c || (decide (c.toNat = 95)) || (decide (c.toNat = 45)) || (decide (c.toNat = 46)))) from fun B Q => by unfold Ch.legC; rfl]
              try simp only [HN.out, hb_lt, hb_dg, e_x95,  Bool.true_or, Bool.or_true, Bool.false_or, Bool.or_false, Bool.true_and, Bool.and_true, Bool.false_and, Bool.and_false, Bool.not_true, Bool.not_false]
              try rfl)
            clear HL hso
            rw [hb_lt] at hlt
            rw [hb_dg] at hdg
            go_enter Tryz.func83, Tryz.ntmps83
            go_wp2_with (first | (go_at_call 56; refine (hlt _).mono ?_; rintro e w1 ⟨rfl, rfl⟩) | (go_at_call 57; refine (hdg _).mono ?_; rintro e w1 ⟨rfl, rfl⟩))
            go_ret
            exact ⟨by rw [hv.out]; first | rfl | (simp only [bne, b_x95]; rfl), rfl⟩
          · have d_x95 : decide ((n : Int) = 95) = false := decide_eq_false a_x95
            have b_x95 : ((n : Int) == 95) = false := by simpa using a_x95
            have n_x95 : ¬ (n = 95) := by omega
            have e_x95 : decide (n = 95) = false := decide_eq_false n_x95
            by_cases a_x45 : (n : Int) = 45
            · have d_x45 : decide ((n : Int) = 45) = true := decide_eq_true a_x45
              have b_x45 : ((n : Int) == 45) = true := by simpa using a_x45
              have n_x45 : (n = 45) := by omega
              have e_x45 : decide (n = 45) = true := decide_eq_true n_x45
              have hN_x45 := Lib.hid n_x45
              clear n_x45
              have hA_x45 := Lib.hid a_x45
              clear a_x45
              have hv := Lib.hid (show Ch.legI 4 0 l k = true by
                rw [HL.out, show ∀ B Q, Ch.legC 4 0 c B Q = (((decide ((0 : Int) = 0)) || !(decide ((0 : Int) = 0))) && (Ch.letter c || Ch.digit c || (decide (c.toNat = 95)) || (decide (c.toNat = 45)) || (decide (c.toNat = 46)))) from fun B Q => by unfold Ch.legC; rfl]
                try simp only [HN.out, hb_lt, hb_dg, e_x95, e_x45,  Bool.true_or, Bool.or_true, Bool.false_or, Bool.or_false, Bool.true_and, Bool.and_true, Bool.false_and, Bool.and_false, Bool.not_true, Bool.not_false]
                try rfl)
              clear HL hso
              rw [hb_lt] at hlt
              rw [hb_dg] at hdg
              go_enter Tryz.func83, Tryz.ntmps83
              go_wp2_with (first | (go_at_call 56; refine (hlt _).mono ?_; rintro e w1 ⟨rfl, rfl⟩) | (go_at_call 57; refine (hdg _).mono ?_; rintro e w1 ⟨rfl, rfl⟩))
              go_ret
              exact ⟨by rw [hv.out]; first | rfl | (simp only [bne, b_x95, b_x45]; rfl), rfl⟩
            · have d_x45 : decide ((n : Int) = 45) = false := decide_eq_false a_x45
              have b_x45 : ((n : Int) == 45) = false := by simpa using a_x45
              have n_x45 : ¬ (n = 45) := by omega
              have e_x45 : decide (n = 45) = false := decide_eq_false n_x45
              by_cases a_x46 : (n : Int) = 46
              · have d_x46 : decide ((n : Int) = 46) = true := decide_eq_true a_x46
                have b_x46 : ((n : Int) == 46) = true := by simpa using a_x46
                have n_x46 : (n = 46) := by omega
                have e_x46 : decide (n = 46) = true := decide_eq_true n_x46
                have hN_x46 := Lib.hid n_x46
                clear n_x46
                have hA_x46 := Lib.hid a_x46
                clear a_x46
                have hv := Lib.hid (show Ch.legI 4 0 l k = true by
                  rw [HL.out, show ∀ B Q, Ch.legC 4 0 c B Q = (((decide ((0 : Int) = 0)) || !(decide ((0 : Int) = 0))) && (Ch.letter c || Ch.digit c || (decide (c.toNat = 95)) || (decide (c.toNat = 45)) || (decide (c.toNat = 46)))) from fun B Q => by unfold Ch.legC; rfl]
                  try simp only [HN.out, hb_lt, hb_dg, e_x95, e_x45, e_x46,  Bool.true_or, Bool.or_true, Bool.false_or, Bool.or_false, Bool.true_and, Bool.and_true, Bool.false_and, Bool.and_false, Bool.not_true, Bool.not_false]
                  try rfl)
                clear HL hso
                rw [hb_lt] at hlt
                rw [hb_dg] at hdg
                go_enter Tryz.func83, Tryz.ntmps83
                go_wp2_with (first | (go_at_call 56; refine (hlt _).mono ?_; rintro e w1 ⟨rfl, rfl⟩) | (go_at_call 57; refine (hdg _).mono ?_; rintro e w1 ⟨rfl, rfl⟩))
                go_ret
                exact ⟨by rw [hv.out]; first | rfl | (simp only [bne, b_x95, b_x45, b_x46]; rfl), rfl⟩
              · have d_x46 : decide ((n : Int) = 46) = false := decide_eq_false a_x46
                have b_x46 : ((n : Int) == 46) = false := by simpa using a_x46
                have n_x46 : ¬ (n = 46) := by omega
                have e_x46 : decide (n = 46) = false := decide_eq_false n_x46
                have hv := Lib.hid (show Ch.legI 4 0 l k = false by
                  rw [HL.out, show ∀ B Q, Ch.legC 4 0 c B Q = (((decide ((0 : Int) = 0)) || !(decide ((0 : Int) = 0))) && (Ch.letter c || Ch.digit c || (decide (c.toNat = 95)) || (decide (c.toNat = 45)) || (decide (c.toNat = 46)))) from fun B Q => by unfold Ch.legC; rfl]
                  try simp only [HN.out, hb_lt, hb_dg, e_x95, e_x45, e_x46,  Bool.true_or, Bool.or_true, Bool.false_or, Bool.or_false, Bool.true_and, Bool.and_true, Bool.false_and, Bool.and_false, Bool.not_true, Bool.not_false]
                  try rfl)
                clear HL hso
                rw [hb_lt] at hlt
                rw [hb_dg] at hdg
                go_enter Tryz.func83, Tryz.ntmps83
                go_wp2_with (first | (go_at_call 56; refine (hlt _).mono ?_; rintro e w1 ⟨rfl, rfl⟩) | (go_at_call 57; refine (hdg _).mono ?_; rintro e w1 ⟨rfl, rfl⟩))
                go_ret
                exact ⟨by rw [hv.out]; first | rfl | (simp only [bne, b_x95, b_x45, b_x46]; rfl), rfl⟩
        · have hv := Lib.hid (show Ch.legI 4 0 l k = true by
            rw [HL.out, show ∀ B Q, Ch.legC 4 0 c B Q = (((decide ((0 : Int) = 0)) || !(decide ((0 : Int) = 0))) && (Ch.letter c || Ch.digit c || (decide (c.toNat = 95)) || (decide (c.toNat = 45)) || (decide (c.toNat = 46)))) from fun B Q => by unfold Ch.legC; rfl]
            try simp only [HN.out, hb_lt, hb_dg,  Bool.true_or, Bool.or_true, Bool.false_or, Bool.or_false, Bool.true_and, Bool.and_true, Bool.false_and, Bool.and_false, Bool.not_true, Bool.not_false]
            try rfl)
          clear HL hso
          rw [hb_lt] at hlt
          rw [hb_dg] at hdg
          go_enter Tryz.func83, Tryz.ntmps83
          go_wp2_with (first | (go_at_call 56; refine (hlt _).mono ?_; rintro e w1 ⟨rfl, rfl⟩) | (go_at_call 57; refine (hdg _).mono ?_; rintro e w1 ⟨rfl, rfl⟩))
          go_ret
          exact ⟨by rw [hv.out]; first | rfl | (simp only [bne]; rfl), rfl⟩
      · have hv := Lib.hid (show Ch.legI 4 0 l k = true by
          rw [HL.out, show ∀ B Q, Ch.legC 4 0 c B Q = (((decide ((0 : Int) = 0)) || !(decide ((0 : Int) = 0))) && (Ch.letter c || Ch.digit c || (decide (c.toNat = 95)) || (decide (c.toNat = 45)) || (decide (c.toNat = 46)))) from fun B Q => by unfold Ch.legC; rfl]
          try simp only [HN.out, hb_lt,  Bool.true_or, Bool.or_true, Bool.false_or, Bool.or_false, Bool.true_and, Bool.and_true, Bool.false_and, Bool.and_false, Bool.not_true, Bool.not_false]
          try rfl)
        clear HL hso
        rw [hb_lt] at hlt
        go_enter Tryz.func83, Tryz.ntmps83
        go_wp2_with (first | (go_at_call 56; refine (hlt _).mono ?_; rintro e w1 ⟨rfl, rfl⟩) | (go_at_call 57; refine (hdg _).mono ?_; rintro e w1 ⟨rfl, rfl⟩))
        go_ret
        exact ⟨by rw [hv.out]; first | rfl | (simp only [bne]; rfl), rfl⟩
    have hr := Lib.hid (show Ch.legI p 0 l k = false by rw [HL.out]; exact Ch.legC_off (by omega))
    have f1 : decide (p = 1) = false := decide_eq_false q1
    have f2 : decide (p = 2) = false := decide_eq_false q2
    have f3 : decide (p = 3) = false := decide_eq_false q3
    have f4 : decide (p = 4) = false := decide_eq_false q4
    clear HL hso
    go_enter Tryz.func83, Tryz.ntmps83
    go_wp2
    go_ret
    exact ⟨by rw [hr.out]; rfl, rfl⟩
  · skip
    by_cases q1 : p = 1
    · subst q1
      cases hb_lt : Ch.letter c
      · by_cases a_x95 : (n : Int) = 95
        · have d_x95 : decide ((n : Int) = 95) = true := decide_eq_true a_x95
          have b_x95 : ((n : Int) == 95) = true := by simpa using a_x95
          have n_x95 : (n = 95) := by omega
          have e_x95 : decide (n = 95) = true := decide_eq_true n_x95
          have hN_x95 := Lib.hid n_x95
          clear n_x95
          have hA_x95 := Lib.hid a_x95
          clear a_x95
          have hv := Lib.hid (show Ch.legI 1 1 l k = true by
            rw [HL.out, show ∀ B Q, Ch.legC 1 1 c B Q = (((decide ((1 : Int) = 0)) || !(decide ((1 : Int) = 0))) && (Ch.letter c || (decide (c.toNat = 95)) || (B && Ch.digit c) || ((decide ((1 : Int) = 0)) && (decide (c.toNat = 58))))) from fun B Q => by unfold Ch.legC; rfl]
            try simp only [HN.out, hb_lt, e_x95,  Bool.true_or, Bool.or_true, Bool.false_or, Bool.or_false, Bool.true_and, Bool.and_true, Bool.false_and, Bool.and_false, Bool.not_true, Bool.not_false]
            try rfl)
          clear HL hso
          rw [hb_lt] at hlt
          go_enter Tryz.func83, Tryz.ntmps83
          go_wp2_with (first | (go_at_call 56; refine (hlt _).mono ?_; rintro e w1 ⟨rfl, rfl⟩) | (go_at_call 57; refine (hdg _).mono ?_; rintro e w1 ⟨rfl, rfl⟩))
          go_ret
          exact ⟨by rw [hv.out]; first | rfl | (simp only [bne, b_x95]; rfl), rfl⟩
        · have d_x95 : decide ((n : Int) = 95) = false := decide_eq_false a_x95
          have b_x95 : ((n : Int) == 95) = false := by simpa using a_x95
          have n_x95 : ¬ (n = 95) := by omega
          have e_x95 : decide (n = 95) = false := decide_eq_false n_x95
          by_cases a_b : (0 : Int) < (k : Int)
          · have d_b : decide ((0 : Int) < (k : Int)) = true := decide_eq_true a_b
            have n_b : (0 < k) := by omega
            have e_b : decide (0 < k) = true := decide_eq_true n_b
            cases hb_dg : Ch.digit c
            · have hv := Lib.hid (show Ch.legI 1 1 l k = false by
                rw [HL.out, show ∀ B Q, Ch.legC 1 1 c B Q = (((decide ((1 : Int) = 0)) || !(decide ((1 : Int) = 0))) && (Ch.letter c || (decide (c.toNat = 95)) || (B && Ch.digit c) || ((decide ((1 : Int) = 0)) && (decide (c.toNat = 58))))) from fun B Q => by unfold Ch.legC; rfl]
                try simp only [HN.out, hb_lt, e_x95, e_b, hb_dg,  Bool.true_or, Bool.or_true, Bool.false_or, Bool.or_false, Bool.true_and, Bool.and_true, Bool.false_and, Bool.and_false, Bool.not_true, Bool.not_false]
                try rfl)
              clear HL hso
              rw [hb_lt] at hlt
              rw [hb_dg] at hdg
              go_enter Tryz.func83, Tryz.ntmps83
              go_wp2_with (first | (go_at_call 56; refine (hlt _).mono ?_; rintro e w1 ⟨rfl, rfl⟩) | (go_at_call 57; refine (hdg _).mono ?_; rintro e w1 ⟨rfl, rfl⟩))
              go_ret
              exact ⟨by rw [hv.out]; first | rfl | (simp only [bne, b_x95]; rfl), rfl⟩
            · have hv := Lib.hid (show Ch.legI 1 1 l k = true by
                rw [HL.out, show ∀ B Q, Ch.legC 1 1 c B Q = (((decide ((1 : Int) = 0)) || !(decide ((1 : Int) = 0))) && (Ch.letter c || (decide (c.toNat = 95)) || (B && Ch.digit c) || ((decide ((1 : Int) = 0)) && (decide (c.toNat = 58))))) from fun B Q => by unfold Ch.legC; rfl]
                try simp only [HN.out, hb_lt, e_x95, e_b, hb_dg,  Bool.true_or, Bool.or_true, Bool.false_or, Bool.or_false, Bool.true_and, Bool.and_true, Bool.false_and, Bool.and_false, Bool.not_true, Bool.not_false]
                try rfl)
              clear HL hso
              rw [hb_lt] at hlt
              rw [hb_dg] at hdg
              go_enter Tryz.func83, Tryz.ntmps83
              go_wp2_with (first | (go_at_call 56; refine (hlt _).mono ?_; rintro e w1 ⟨rfl, rfl⟩) | (go_at_call 57; refine (hdg _).mono ?_; rintro e w1 ⟨rfl, rfl⟩))
              go_ret
              exact ⟨by rw [hv.out]; first | rfl | (simp only [bne, b_x95]; rfl), rfl⟩
          · have d_b : decide ((0 : Int) < (k : Int)) = false := decide_eq_false a_b
            have n_b : ¬ (0 < k) := by omega
            have e_b : decide (0 < k) = false := decide_eq_false n_b
            have hv := Lib.hid (show Ch.legI 1 1 l k = false by
              rw [HL.out, show ∀ B Q, Ch.legC 1 1 c B Q = (((decide ((1 : Int) = 0)) || !(decide ((1 : Int) = 0))) && (Ch.letter c || (decide (c.toNat = 95)) || (B && Ch.digit c) || ((decide ((1 : Int) = 0)) && (decide (c.toNat = 58))))) from fun B Q => by unfold Ch.legC; rfl]
              try simp only [HN.out, hb_lt, e_x95, e_b,  Bool.true_or, Bool.or_true, Bool.false_or, Bool.or_false, Bool.true_and, Bool.and_true, Bool.false_and, Bool.and_false, Bool.not_true, Bool.not_false]
              try rfl)
            clear HL hso
            rw [hb_lt] at hlt
            go_enter Tryz.func83, Tryz.ntmps83
            go_wp2_with (first | (go_at_call 56; refine (hlt _).mono ?_; rintro e w1 ⟨rfl, rfl⟩) | (go_at_call 57; refine (hdg _).mono ?_; rintro e w1 ⟨rfl, rfl⟩))
            go_ret
            exact ⟨by rw [hv.out]; first | rfl | (simp only [bne, b_x95]; rfl), rfl⟩
      · have hv := Lib.hid (show Ch.legI 1 1 l k = true by
          rw [HL.out, show ∀ B Q, Ch.legC 1 1 c B Q = (((decide ((1 : Int) = 0)) || !(decide ((1 : Int) = 0))) && (Ch.letter c || (decide (c.toNat = 95)) || (B && Ch.digit c) || ((decide ((1 : Int) = 0)) && (decide (c.toNat = 58))))) from fun B Q => by unfold Ch.legC; rfl]
          try simp only [HN.out, hb_lt,  Bool.true_or, Bool.or_true, Bool.false_or, Bool.or_false, Bool.true_and, Bool.and_true, Bool.false_and, Bool.and_false, Bool.not_true, Bool.not_false]
          try rfl)
        clear HL hso
        rw [hb_lt] at hlt
        go_enter Tryz.func83, Tryz.ntmps83
        go_wp2_with (first | (go_at_call 56; refine (hlt _).mono ?_; rintro e w1 ⟨rfl, rfl⟩) | (go_at_call 57; refine (hdg _).mono ?_; rintro e w1 ⟨rfl, rfl⟩))
        go_ret
        exact ⟨by rw [hv.out]; first | rfl | (simp only [bne]; rfl), rfl⟩
    by_cases q2 : p = 2
    · subst q2
      by_cases a_g32 : (32 : Int) ≤ (n : Int)
      · have d_g32 : decide ((32 : Int) ≤ (n : Int)) = true := decide_eq_true a_g32
        have n_g32 : (32 ≤ n) := by omega
        have e_g32 : decide (32 ≤ n) = true := decide_eq_true n_g32
        by_cases a_l126 : (n : Int) ≤ 126
        · have d_l126 : decide ((n : Int) ≤ 126) = true := decide_eq_true a_l126
          have n_l126 : (n ≤ 126) := by omega
          have e_l126 : decide (n ≤ 126) = true := decide_eq_true n_l126
          by_cases a_x92 : (n : Int) = 92
          · have d_x92 : decide ((n : Int) = 92) = true := decide_eq_true a_x92
            have b_x92 : ((n : Int) == 92) = true := by simpa using a_x92
            have n_x92 : (n = 92) := by omega
            have e_x92 : decide (n = 92) = true := decide_eq_true n_x92
            have hN_x92 := Lib.hid n_x92
            clear n_x92
            have hA_x92 := Lib.hid a_x92
            clear a_x92
            have hv := Lib.hid (show Ch.legI 2 1 l k = false by
              rw [HL.out, show ∀ B Q, Ch.legC 2 1 c B Q = (((decide ((1 : Int) = 0)) || !(decide ((1 : Int) = 0))) && (((decide (32 ≤ c.toNat)) && (decide (c.toNat ≤ 126)) && !(decide (c.toNat = 92))) && !(!B && (decide (c.toNat = 35)) && (decide ((1 : Int) = 0))))) from fun B Q => by unfold Ch.legC Ch.line; rfl]
              try simp only [HN.out, e_g32, e_l126, e_x92,  Bool.true_or, Bool.or_true, Bool.false_or, Bool.or_false, Bool.true_and, Bool.and_true, Bool.false_and, Bool.and_false, Bool.not_true, Bool.not_false]
              try rfl)
            clear HL hso
            go_enter Tryz.func83, Tryz.ntmps83
            go_wp2_with (first | (go_at_call 56; refine (hlt _).mono ?_; rintro e w1 ⟨rfl, rfl⟩) | (go_at_call 57; refine (hdg _).mono ?_; rintro e w1 ⟨rfl, rfl⟩))
            go_ret
            exact ⟨by rw [hv.out]; first | rfl | (simp only [bne, b_x92]; rfl), rfl⟩
          · have d_x92 : decide ((n : Int) = 92) = false := decide_eq_false a_x92
            have b_x92 : ((n : Int) == 92) = false := by simpa using a_x92
            have n_x92 : ¬ (n = 92) := by omega
            have e_x92 : decide (n = 92) = false := decide_eq_false n_x92
            by_cases a_z : (k : Int) = 0
            · have d_z : decide ((k : Int) = 0) = true := decide_eq_true a_z
              have b_z : ((k : Int) == 0) = true := by simpa using a_z
              have n_z : (k = 0) := by omega
              have e_z : decide (k = 0) = true := decide_eq_true n_z
              have hN_z := Lib.hid n_z
              clear n_z
              have hA_z := Lib.hid a_z
              clear a_z
              have eb_z : decide (0 < k) = false := decide_eq_false (by have := hN_z.out; omega)
              by_cases a_x35 : (n : Int) = 35
              · have d_x35 : decide ((n : Int) = 35) = true := decide_eq_true a_x35
                have b_x35 : ((n : Int) == 35) = true := by simpa using a_x35
                have n_x35 : (n = 35) := by omega
                have e_x35 : decide (n = 35) = true := decide_eq_true n_x35
                have hN_x35 := Lib.hid n_x35
                clear n_x35
                have hA_x35 := Lib.hid a_x35
                clear a_x35
                have hv := Lib.hid (show Ch.legI 2 1 l k = true by
                  rw [HL.out, show ∀ B Q, Ch.legC 2 1 c B Q = (((decide ((1 : Int) = 0)) || !(decide ((1 : Int) = 0))) && (((decide (32 ≤ c.toNat)) && (decide (c.toNat ≤ 126)) && !(decide (c.toNat = 92))) && !(!B && (decide (c.toNat = 35)) && (decide ((1 : Int) = 0))))) from fun B Q => by unfold Ch.legC Ch.line; rfl]
                  try simp only [HN.out, e_g32, e_l126, e_x92, eb_z, e_x35,  Bool.true_or, Bool.or_true, Bool.false_or, Bool.or_false, Bool.true_and, Bool.and_true, Bool.false_and, Bool.and_false, Bool.not_true, Bool.not_false]
                  try rfl)
                clear HL hso
                go_enter Tryz.func83, Tryz.ntmps83
                go_wp2_with (first | (go_at_call 56; refine (hlt _).mono ?_; rintro e w1 ⟨rfl, rfl⟩) | (go_at_call 57; refine (hdg _).mono ?_; rintro e w1 ⟨rfl, rfl⟩))
                go_ret
                exact ⟨by rw [hv.out]; first | rfl | (simp only [bne, b_x92, b_z, b_x35]; rfl), rfl⟩
              · have d_x35 : decide ((n : Int) = 35) = false := decide_eq_false a_x35
                have b_x35 : ((n : Int) == 35) = false := by simpa using a_x35
                have n_x35 : ¬ (n = 35) := by omega
                have e_x35 : decide (n = 35) = false := decide_eq_false n_x35
                have hv := Lib.hid (show Ch.legI 2 1 l k = true by
                  rw [HL.out, show ∀ B Q, Ch.legC 2 1 c B Q = (((decide ((1 : Int) = 0)) || !(decide ((1 : Int) = 0))) && (((decide (32 ≤ c.toNat)) && (decide (c.toNat ≤ 126)) && !(decide (c.toNat = 92))) && !(!B && (decide (c.toNat = 35)) && (decide ((1 : Int) = 0))))) from fun B Q => by unfold Ch.legC Ch.line; rfl]
                  try simp only [HN.out, e_g32, e_l126, e_x92, eb_z, e_x35,  Bool.true_or, Bool.or_true, Bool.false_or, Bool.or_false, Bool.true_and, Bool.and_true, Bool.false_and, Bool.and_false, Bool.not_true, Bool.not_false]
                  try rfl)
                clear HL hso
                go_enter Tryz.func83, Tryz.ntmps83
                go_wp2_with (first | (go_at_call 56; refine (hlt _).mono ?_; rintro e w1 ⟨rfl, rfl⟩) | (go_at_call 57; refine (hdg _).mono ?_; rintro e w1 ⟨rfl, rfl⟩))
                go_ret
                exact ⟨by rw [hv.out]; first | rfl | (simp only [bne, b_x92, b_z, b_x35]; rfl), rfl⟩
            · have d_z : decide ((k : Int) = 0) = false := decide_eq_false a_z
              have b_z : ((k : Int) == 0) = false := by simpa using a_z
              have n_z : ¬ (k = 0) := by omega
              have e_z : decide (k = 0) = false := decide_eq_false n_z
              have eb_z : decide (0 < k) = true := decide_eq_true (by omega)
              have hv := Lib.hid (show Ch.legI 2 1 l k = true by
                rw [HL.out, show ∀ B Q, Ch.legC 2 1 c B Q = (((decide ((1 : Int) = 0)) || !(decide ((1 : Int) = 0))) && (((decide (32 ≤ c.toNat)) && (decide (c.toNat ≤ 126)) && !(decide (c.toNat = 92))) && !(!B && (decide (c.toNat = 35)) && (decide ((1 : Int) = 0))))) from fun B Q => by unfold Ch.legC Ch.line; rfl]
                try simp only [HN.out, e_g32, e_l126, e_x92, eb_z,  Bool.true_or, Bool.or_true, Bool.false_or, Bool.or_false, Bool.true_and, Bool.and_true, Bool.false_and, Bool.and_false, Bool.not_true, Bool.not_false]
                try rfl)
              clear HL hso
              go_enter Tryz.func83, Tryz.ntmps83
              go_wp2_with (first | (go_at_call 56; refine (hlt _).mono ?_; rintro e w1 ⟨rfl, rfl⟩) | (go_at_call 57; refine (hdg _).mono ?_; rintro e w1 ⟨rfl, rfl⟩))
              go_ret
              exact ⟨by rw [hv.out]; first | rfl | (simp only [bne, b_x92, b_z]; rfl), rfl⟩
        · have d_l126 : decide ((n : Int) ≤ 126) = false := decide_eq_false a_l126
          have n_l126 : ¬ (n ≤ 126) := by omega
          have e_l126 : decide (n ≤ 126) = false := decide_eq_false n_l126
          have hv := Lib.hid (show Ch.legI 2 1 l k = false by
            rw [HL.out, show ∀ B Q, Ch.legC 2 1 c B Q = (((decide ((1 : Int) = 0)) || !(decide ((1 : Int) = 0))) && (((decide (32 ≤ c.toNat)) && (decide (c.toNat ≤ 126)) && !(decide (c.toNat = 92))) && !(!B && (decide (c.toNat = 35)) && (decide ((1 : Int) = 0))))) from fun B Q => by unfold Ch.legC Ch.line; rfl]
            try simp only [HN.out, e_g32, e_l126,  Bool.true_or, Bool.or_true, Bool.false_or, Bool.or_false, Bool.true_and, Bool.and_true, Bool.false_and, Bool.and_false, Bool.not_true, Bool.not_false]
            try rfl)
          clear HL hso
          go_enter Tryz.func83, Tryz.ntmps83
          go_wp2_with (first | (go_at_call 56; refine (hlt _).mono ?_; rintro e w1 ⟨rfl, rfl⟩) | (go_at_call 57; refine (hdg _).mono ?_; rintro e w1 ⟨rfl, rfl⟩))
          go_ret
          exact ⟨by rw [hv.out]; first | rfl | (simp only [bne]; rfl), rfl⟩
      · have d_g32 : decide ((32 : Int) ≤ (n : Int)) = false := decide_eq_false a_g32
        have n_g32 : ¬ (32 ≤ n) := by omega
        have e_g32 : decide (32 ≤ n) = false := decide_eq_false n_g32
        have hv := Lib.hid (show Ch.legI 2 1 l k = false by
          rw [HL.out, show ∀ B Q, Ch.legC 2 1 c B Q = (((decide ((1 : Int) = 0)) || !(decide ((1 : Int) = 0))) && (((decide (32 ≤ c.toNat)) && (decide (c.toNat ≤ 126)) && !(decide (c.toNat = 92))) && !(!B && (decide (c.toNat = 35)) && (decide ((1 : Int) = 0))))) from fun B Q => by unfold Ch.legC Ch.line; rfl]
          try simp only [HN.out, e_g32,  Bool.true_or, Bool.or_true, Bool.false_or, Bool.or_false, Bool.true_and, Bool.and_true, Bool.false_and, Bool.and_false, Bool.not_true, Bool.not_false]
          try rfl)
        clear HL hso
        go_enter Tryz.func83, Tryz.ntmps83
        go_wp2_with (first | (go_at_call 56; refine (hlt _).mono ?_; rintro e w1 ⟨rfl, rfl⟩) | (go_at_call 57; refine (hdg _).mono ?_; rintro e w1 ⟨rfl, rfl⟩))
        go_ret
        exact ⟨by rw [hv.out]; first | rfl | (simp only [bne]; rfl), rfl⟩
    by_cases q3 : p = 3
    · subst q3
      by_cases a_x46 : (n : Int) = 46
      · have d_x46 : decide ((n : Int) = 46) = true := decide_eq_true a_x46
        have b_x46 : ((n : Int) == 46) = true := by simpa using a_x46
        have n_x46 : (n = 46) := by omega
        have e_x46 : decide (n = 46) = true := decide_eq_true n_x46
        have hN_x46 := Lib.hid n_x46
        clear n_x46
        have hA_x46 := Lib.hid a_x46
        clear a_x46
        have hv := Lib.hid (show Ch.legI 3 1 l k = false by
          rw [HL.out, show ∀ B Q, Ch.legC 3 1 c B Q = (((decide ((1 : Int) = 0)) || !(decide ((1 : Int) = 0))) && (if c.toNat = 46 then (decide ((1 : Int) = 0)) && Q else Ch.letter c || Ch.digit c || (decide (c.toNat = 95)) || (decide (c.toNat = 45)) || (decide (c.toNat = 58)))) from fun B Q => by unfold Ch.legC; rfl]
          rw [if_pos (show c.toNat = 46 from by rw [HN.out]; exact hN_x46.out)]
          try simp only [HN.out,  Bool.true_or, Bool.or_true, Bool.false_or, Bool.or_false, Bool.true_and, Bool.and_true, Bool.false_and, Bool.and_false, Bool.not_true, Bool.not_false]
          try rfl)
        clear HL hso
        go_enter Tryz.func83, Tryz.ntmps83
        go_wp2_with (first | (go_at_call 56; refine (hlt _).mono ?_; rintro e w1 ⟨rfl, rfl⟩) | (go_at_call 57; refine (hdg _).mono ?_; rintro e w1 ⟨rfl, rfl⟩))
        go_ret
        exact ⟨by rw [hv.out]; first | rfl | (simp only [bne, b_x46]; rfl), rfl⟩
      · have d_x46 : decide ((n : Int) = 46) = false := decide_eq_false a_x46
        have b_x46 : ((n : Int) == 46) = false := by simpa using a_x46
        have n_x46 : ¬ (n = 46) := by omega
        have e_x46 : decide (n = 46) = false := decide_eq_false n_x46
        cases hb_lt : Ch.letter c
        · cases hb_dg : Ch.digit c
          · by_cases a_x95 : (n : Int) = 95
            · have d_x95 : decide ((n : Int) = 95) = true := decide_eq_true a_x95
              have b_x95 : ((n : Int) == 95) = true := by simpa using a_x95
              have n_x95 : (n = 95) := by omega
              have e_x95 : decide (n = 95) = true := decide_eq_true n_x95
              have hN_x95 := Lib.hid n_x95
              clear n_x95
              have hA_x95 := Lib.hid a_x95
              clear a_x95
              have hv := Lib.hid (show Ch.legI 3 1 l k = true by
                rw [HL.out, show ∀ B Q, Ch.legC 3 1 c B Q = (((decide ((1 : Int) = 0)) || !(decide ((1 : Int) = 0))) && (if c.toNat = 46 then (decide ((1 : Int) = 0)) && Q else Ch.letter c || Ch.digit c || (decide (c.toNat = 95)) || (decide (c.toNat = 45)) || (decide (c.toNat = 58)))) from fun B Q => by unfold Ch.legC; rfl]
                rw [if_neg (show ¬ c.toNat = 46 from by rw [HN.out]; exact n_x46)]
                try simp only [HN.out, hb_lt, hb_dg, e_x95,  Bool.true_or, Bool.or_true, Bool.false_or, Bool.or_false, Bool.true_and, Bool.and_true, Bool.false_and, Bool.and_false, Bool.not_true, Bool.not_false]
                try rfl)
              clear HL hso
              rw [hb_lt] at hlt
              rw [hb_dg] at hdg
              go_enter Tryz.func83, Tryz.ntmps83
              go_wp2_with (first | (go_at_call 56; refine (hlt _).mono ?_; rintro e w1 ⟨rfl, rfl⟩) | (go_at_call 57; refine (hdg _).mono ?_; rintro e w1 ⟨rfl, rfl⟩))
              go_ret
              exact ⟨by rw [hv.out]; first | rfl | (simp only [bne, b_x46, b_x95]; rfl), rfl⟩
            · have d_x95 : decide ((n : Int) = 95) = false := decide_eq_false a_x95
              have b_x95 : ((n : Int) == 95) = false := by simpa using a_x95
              have n_x95 : ¬ (n = 95) := by omega
              have e_x95 : decide (n = 95) = false := decide_eq_false n_x95
              by_cases a_x45 : (n : Int) = 45
              · have d_x45 : decide ((n : Int) = 45) = true := decide_eq_true a_x45
                have b_x45 : ((n : Int) == 45) = true := by simpa using a_x45
                have n_x45 : (n = 45) := by omega
                have e_x45 : decide (n = 45) = true := decide_eq_true n_x45
                have hN_x45 := Lib.hid n_x45
                clear n_x45
                have hA_x45 := Lib.hid a_x45
                clear a_x45
                have hv := Lib.hid (show Ch.legI 3 1 l k = true by
                  rw [HL.out, show ∀ B Q, Ch.legC 3 1 c B Q = (((decide ((1 : Int) = 0)) || !(decide ((1 : Int) = 0))) && (if c.toNat = 46 then (decide ((1 : Int) = 0)) && Q else Ch.letter c || Ch.digit c || (decide (c.toNat = 95)) || (decide (c.toNat = 45)) || (decide (c.toNat = 58)))) from fun B Q => by unfold Ch.legC; rfl]
                  rw [if_neg (show ¬ c.toNat = 46 from by rw [HN.out]; exact n_x46)]
                  try simp only [HN.out, hb_lt, hb_dg, e_x95, e_x45,  Bool.true_or, Bool.or_true, Bool.false_or, Bool.or_false, Bool.true_and, Bool.and_true, Bool.false_and, Bool.and_false, Bool.not_true, Bool.not_false]
                  try rfl)
                clear HL hso
                rw [hb_lt] at hlt
                rw [hb_dg] at hdg
                go_enter Tryz.func83, Tryz.ntmps83
                go_wp2_with (first | (go_at_call 56; refine (hlt _).mono ?_; rintro e w1 ⟨rfl, rfl⟩) | (go_at_call 57; refine (hdg _).mono ?_; rintro e w1 ⟨rfl, rfl⟩))
                go_ret
                exact ⟨by rw [hv.out]; first | rfl | (simp only [bne, b_x46, b_x95, b_x45]; rfl), rfl⟩
              · have d_x45 : decide ((n : Int) = 45) = false := decide_eq_false a_x45
                have b_x45 : ((n : Int) == 45) = false := by simpa using a_x45
                have n_x45 : ¬ (n = 45) := by omega
                have e_x45 : decide (n = 45) = false := decide_eq_false n_x45
                by_cases a_x58 : (n : Int) = 58
                · have d_x58 : decide ((n : Int) = 58) = true := decide_eq_true a_x58
                  have b_x58 : ((n : Int) == 58) = true := by simpa using a_x58
                  have n_x58 : (n = 58) := by omega
                  have e_x58 : decide (n = 58) = true := decide_eq_true n_x58
                  have hN_x58 := Lib.hid n_x58
                  clear n_x58
                  have hA_x58 := Lib.hid a_x58
                  clear a_x58
                  have hv := Lib.hid (show Ch.legI 3 1 l k = true by
                    rw [HL.out, show ∀ B Q, Ch.legC 3 1 c B Q = (((decide ((1 : Int) = 0)) || !(decide ((1 : Int) = 0))) && (if c.toNat = 46 then (decide ((1 : Int) = 0)) && Q else Ch.letter c || Ch.digit c || (decide (c.toNat = 95)) || (decide (c.toNat = 45)) || (decide (c.toNat = 58)))) from fun B Q => by unfold Ch.legC; rfl]
                    rw [if_neg (show ¬ c.toNat = 46 from by rw [HN.out]; exact n_x46)]
                    try simp only [HN.out, hb_lt, hb_dg, e_x95, e_x45, e_x58,  Bool.true_or, Bool.or_true, Bool.false_or, Bool.or_false, Bool.true_and, Bool.and_true, Bool.false_and, Bool.and_false, Bool.not_true, Bool.not_false]
                    try rfl)
                  clear HL hso
                  rw [hb_lt] at hlt
                  rw [hb_dg] at hdg
                  go_enter Tryz.func83, Tryz.ntmps83
                  go_wp2_with (first | (go_at_call 56; refine (hlt _).mono ?_; rintro e w1 ⟨rfl, rfl⟩) | (go_at_call 57; refine (hdg _).mono ?_; rintro e w1 ⟨rfl, rfl⟩))
                  go_ret
                  exact ⟨by rw [hv.out]; first | rfl | (simp only [bne, b_x46, b_x95, b_x45, b_x58]; rfl), rfl⟩
                · have d_x58 : decide ((n : Int) = 58) = false := decide_eq_false a_x58
                  have b_x58 : ((n : Int) == 58) = false := by simpa using a_x58
                  have n_x58 : ¬ (n = 58) := by omega
                  have e_x58 : decide (n = 58) = false := decide_eq_false n_x58
                  have hv := Lib.hid (show Ch.legI 3 1 l k = false by
                    rw [HL.out, show ∀ B Q, Ch.legC 3 1 c B Q = (((decide ((1 : Int) = 0)) || !(decide ((1 : Int) = 0))) && (if c.toNat = 46 then (decide ((1 : Int) = 0)) && Q else Ch.letter c || Ch.digit c || (decide (c.toNat = 95)) || (decide (c.toNat = 45)) || (decide (c.toNat = 58)))) from fun B Q => by unfold Ch.legC; rfl]
                    rw [if_neg (show ¬ c.toNat = 46 from by rw [HN.out]; exact n_x46)]
                    try simp only [HN.out, hb_lt, hb_dg, e_x95, e_x45, e_x58,  Bool.true_or, Bool.or_true, Bool.false_or, Bool.or_false, Bool.true_and, Bool.and_true, Bool.false_and, Bool.and_false, Bool.not_true, Bool.not_false]
                    try rfl)
                  clear HL hso
                  rw [hb_lt] at hlt
                  rw [hb_dg] at hdg
                  go_enter Tryz.func83, Tryz.ntmps83
                  go_wp2_with (first | (go_at_call 56; refine (hlt _).mono ?_; rintro e w1 ⟨rfl, rfl⟩) | (go_at_call 57; refine (hdg _).mono ?_; rintro e w1 ⟨rfl, rfl⟩))
                  go_ret
                  exact ⟨by rw [hv.out]; first | rfl | (simp only [bne, b_x46, b_x95, b_x45, b_x58]; rfl), rfl⟩
          · have hv := Lib.hid (show Ch.legI 3 1 l k = true by
              rw [HL.out, show ∀ B Q, Ch.legC 3 1 c B Q = (((decide ((1 : Int) = 0)) || !(decide ((1 : Int) = 0))) && (if c.toNat = 46 then (decide ((1 : Int) = 0)) && Q else Ch.letter c || Ch.digit c || (decide (c.toNat = 95)) || (decide (c.toNat = 45)) || (decide (c.toNat = 58)))) from fun B Q => by unfold Ch.legC; rfl]
              rw [if_neg (show ¬ c.toNat = 46 from by rw [HN.out]; exact n_x46)]
              try simp only [HN.out, hb_lt, hb_dg,  Bool.true_or, Bool.or_true, Bool.false_or, Bool.or_false, Bool.true_and, Bool.and_true, Bool.false_and, Bool.and_false, Bool.not_true, Bool.not_false]
              try rfl)
            clear HL hso
            rw [hb_lt] at hlt
            rw [hb_dg] at hdg
            go_enter Tryz.func83, Tryz.ntmps83
            go_wp2_with (first | (go_at_call 56; refine (hlt _).mono ?_; rintro e w1 ⟨rfl, rfl⟩) | (go_at_call 57; refine (hdg _).mono ?_; rintro e w1 ⟨rfl, rfl⟩))
            go_ret
            exact ⟨by rw [hv.out]; first | rfl | (simp only [bne, b_x46]; rfl), rfl⟩
        · have hv := Lib.hid (show Ch.legI 3 1 l k = true by
            rw [HL.out, show ∀ B Q, Ch.legC 3 1 c B Q = (((decide ((1 : Int) = 0)) || !(decide ((1 : Int) = 0))) && (if c.toNat = 46 then (decide ((1 : Int) = 0)) && Q else Ch.letter c || Ch.digit c || (decide (c.toNat = 95)) || (decide (c.toNat = 45)) || (decide (c.toNat = 58)))) from fun B Q => by unfold Ch.legC; rfl]
            rw [if_neg (show ¬ c.toNat = 46 from by rw [HN.out]; exact n_x46)]
            try simp only [HN.out, hb_lt,  Bool.true_or, Bool.or_true, Bool.false_or, Bool.or_false, Bool.true_and, Bool.and_true, Bool.false_and, Bool.and_false, Bool.not_true, Bool.not_false]
            try rfl)
          clear HL hso
          rw [hb_lt] at hlt
          go_enter Tryz.func83, Tryz.ntmps83
          go_wp2_with (first | (go_at_call 56; refine (hlt _).mono ?_; rintro e w1 ⟨rfl, rfl⟩) | (go_at_call 57; refine (hdg _).mono ?_; rintro e w1 ⟨rfl, rfl⟩))
          go_ret
          exact ⟨by rw [hv.out]; first | rfl | (simp only [bne, b_x46]; rfl), rfl⟩
    by_cases q4 : p = 4
    · subst q4
      cases hb_lt : Ch.letter c
      · cases hb_dg : Ch.digit c
        · by_cases a_x95 : (n : Int) = 95
          · have d_x95 : decide ((n : Int) = 95) = true := decide_eq_true a_x95
            have b_x95 : ((n : Int) == 95) = true := by simpa using a_x95
            have n_x95 : (n = 95) := by omega
            have e_x95 : decide (n = 95) = true := decide_eq_true n_x95
            have hN_x95 := Lib.hid n_x95
            clear n_x95
            have hA_x95 := Lib.hid a_x95
            clear a_x95
            have hv := Lib.hid (show Ch.legI 4 1 l k = true by
              rw [HL.out, show ∀ B Q, Ch.legC 4 1 c B Q = (((decide ((1 : Int) = 0)) || !(decide ((1 : Int) = 0))) && (Ch.letter c || Ch.digit c || (decide (c.toNat = 95)) || (decide (c.toNat = 45)) || (decide (c.toNat = 46)))) from fun B Q => by unfold Ch.legC; rfl]
              try simp only [HN.out, hb_lt, hb_dg, e_x95,  Bool.true_or, Bool.or_true, Bool.false_or, Bool.or_false, Bool.true_and, Bool.and_true, Bool.false_and, Bool.and_false, Bool.not_true, Bool.not_false]
              try rfl)
            clear HL hso
            rw [hb_lt] at hlt
            rw [hb_dg] at hdg
            go_enter Tryz.func83, Tryz.ntmps83
            go_wp2_with (first | (go_at_call 56; refine (hlt _).mono ?_; rintro e w1 ⟨rfl, rfl⟩) | (go_at_call 57; refine (hdg _).mono ?_; rintro e w1 ⟨rfl, rfl⟩))
            go_ret
            exact ⟨by rw [hv.out]; first | rfl | (simp only [bne, b_x95]; rfl), rfl⟩
          · have d_x95 : decide ((n : Int) = 95) = false := decide_eq_false a_x95
            have b_x95 : ((n : Int) == 95) = false := by simpa using a_x95
            have n_x95 : ¬ (n = 95) := by omega
            have e_x95 : decide (n = 95) = false := decide_eq_false n_x95
            by_cases a_x45 : (n : Int) = 45
            · have d_x45 : decide ((n : Int) = 45) = true := decide_eq_true a_x45
              have b_x45 : ((n : Int) == 45) = true := by simpa using a_x45
              have n_x45 : (n = 45) := by omega
              have e_x45 : decide (n = 45) = true := decide_eq_true n_x45
              have hN_x45 := Lib.hid n_x45
              clear n_x45
              have hA_x45 := Lib.hid a_x45
              clear a_x45
              have hv := Lib.hid (show Ch.legI 4 1 l k = true by
                rw [HL.out, show ∀ B Q, Ch.legC 4 1 c B Q = (((decide ((1 : Int) = 0)) || !(decide ((1 : Int) = 0))) && (Ch.letter c || Ch.digit c || (decide (c.toNat = 95)) || (decide (c.toNat = 45)) || (decide (c.toNat = 46)))) from fun B Q => by unfold Ch.legC; rfl]
                try simp only [HN.out, hb_lt, hb_dg, e_x95, e_x45,  Bool.true_or, Bool.or_true, Bool.false_or, Bool.or_false, Bool.true_and, Bool.and_true, Bool.false_and, Bool.and_false, Bool.not_true, Bool.not_false]
                try rfl)
              clear HL hso
              rw [hb_lt] at hlt
              rw [hb_dg] at hdg
              go_enter Tryz.func83, Tryz.ntmps83
              go_wp2_with (first | (go_at_call 56; refine (hlt _).mono ?_; rintro e w1 ⟨rfl, rfl⟩) | (go_at_call 57; refine (hdg _).mono ?_; rintro e w1 ⟨rfl, rfl⟩))
              go_ret
              exact ⟨by rw [hv.out]; first | rfl | (simp only [bne, b_x95, b_x45]; rfl), rfl⟩
            · have d_x45 : decide ((n : Int) = 45) = false := decide_eq_false a_x45
              have b_x45 : ((n : Int) == 45) = false := by simpa using a_x45
              have n_x45 : ¬ (n = 45) := by omega
              have e_x45 : decide (n = 45) = false := decide_eq_false n_x45
              by_cases a_x46 : (n : Int) = 46
              · have d_x46 : decide ((n : Int) = 46) = true := decide_eq_true a_x46
                have b_x46 : ((n : Int) == 46) = true := by simpa using a_x46
                have n_x46 : (n = 46) := by omega
                have e_x46 : decide (n = 46) = true := decide_eq_true n_x46
                have hN_x46 := Lib.hid n_x46
                clear n_x46
                have hA_x46 := Lib.hid a_x46
                clear a_x46
                have hv := Lib.hid (show Ch.legI 4 1 l k = true by
                  rw [HL.out, show ∀ B Q, Ch.legC 4 1 c B Q = (((decide ((1 : Int) = 0)) || !(decide ((1 : Int) = 0))) && (Ch.letter c || Ch.digit c || (decide (c.toNat = 95)) || (decide (c.toNat = 45)) || (decide (c.toNat = 46)))) from fun B Q => by unfold Ch.legC; rfl]
                  try simp only [HN.out, hb_lt, hb_dg, e_x95, e_x45, e_x46,  Bool.true_or, Bool.or_true, Bool.false_or, Bool.or_false, Bool.true_and, Bool.and_true, Bool.false_and, Bool.and_false, Bool.not_true, Bool.not_false]
                  try rfl)
                clear HL hso
                rw [hb_lt] at hlt
                rw [hb_dg] at hdg
                go_enter Tryz.func83, Tryz.ntmps83
                go_wp2_with (first | (go_at_call 56; refine (hlt _).mono ?_; rintro e w1 ⟨rfl, rfl⟩) | (go_at_call 57; refine (hdg _).mono ?_; rintro e w1 ⟨rfl, rfl⟩))
                go_ret
                exact ⟨by rw [hv.out]; first | rfl | (simp only [bne, b_x95, b_x45, b_x46]; rfl), rfl⟩
              · have d_x46 : decide ((n : Int) = 46) = false := decide_eq_false a_x46
                have b_x46 : ((n : Int) == 46) = false := by simpa using a_x46
                have n_x46 : ¬ (n = 46) := by omega
                have e_x46 : decide (n = 46) = false := decide_eq_false n_x46
                have hv := Lib.hid (show Ch.legI 4 1 l k = false by
                  rw [HL.out, show ∀ B Q, Ch.legC 4 1 c B Q = (((decide ((1 : Int) = 0)) || !(decide ((1 : Int) = 0))) && (Ch.letter c || Ch.digit c || (decide (c.toNat = 95)) || (decide (c.toNat = 45)) || (decide (c.toNat = 46)))) from fun B Q => by unfold Ch.legC; rfl]
                  try simp only [HN.out, hb_lt, hb_dg, e_x95, e_x45, e_x46,  Bool.true_or, Bool.or_true, Bool.false_or, Bool.or_false, Bool.true_and, Bool.and_true, Bool.false_and, Bool.and_false, Bool.not_true, Bool.not_false]
                  try rfl)
                clear HL hso
                rw [hb_lt] at hlt
                rw [hb_dg] at hdg
                go_enter Tryz.func83, Tryz.ntmps83
                go_wp2_with (first | (go_at_call 56; refine (hlt _).mono ?_; rintro e w1 ⟨rfl, rfl⟩) | (go_at_call 57; refine (hdg _).mono ?_; rintro e w1 ⟨rfl, rfl⟩))
                go_ret
                exact ⟨by rw [hv.out]; first | rfl | (simp only [bne, b_x95, b_x45, b_x46]; rfl), rfl⟩
        · have hv := Lib.hid (show Ch.legI 4 1 l k = true by
            rw [HL.out, show ∀ B Q, Ch.legC 4 1 c B Q = (((decide ((1 : Int) = 0)) || !(decide ((1 : Int) = 0))) && (Ch.letter c || Ch.digit c || (decide (c.toNat = 95)) || (decide (c.toNat = 45)) || (decide (c.toNat = 46)))) from fun B Q => by unfold Ch.legC; rfl]
            try simp only [HN.out, hb_lt, hb_dg,  Bool.true_or, Bool.or_true, Bool.false_or, Bool.or_false, Bool.true_and, Bool.and_true, Bool.false_and, Bool.and_false, Bool.not_true, Bool.not_false]
            try rfl)
          clear HL hso
          rw [hb_lt] at hlt
          rw [hb_dg] at hdg
          go_enter Tryz.func83, Tryz.ntmps83
          go_wp2_with (first | (go_at_call 56; refine (hlt _).mono ?_; rintro e w1 ⟨rfl, rfl⟩) | (go_at_call 57; refine (hdg _).mono ?_; rintro e w1 ⟨rfl, rfl⟩))
          go_ret
          exact ⟨by rw [hv.out]; first | rfl | (simp only [bne]; rfl), rfl⟩
      · have hv := Lib.hid (show Ch.legI 4 1 l k = true by
          rw [HL.out, show ∀ B Q, Ch.legC 4 1 c B Q = (((decide ((1 : Int) = 0)) || !(decide ((1 : Int) = 0))) && (Ch.letter c || Ch.digit c || (decide (c.toNat = 95)) || (decide (c.toNat = 45)) || (decide (c.toNat = 46)))) from fun B Q => by unfold Ch.legC; rfl]
          try simp only [HN.out, hb_lt,  Bool.true_or, Bool.or_true, Bool.false_or, Bool.or_false, Bool.true_and, Bool.and_true, Bool.false_and, Bool.and_false, Bool.not_true, Bool.not_false]
          try rfl)
        clear HL hso
        rw [hb_lt] at hlt
        go_enter Tryz.func83, Tryz.ntmps83
        go_wp2_with (first | (go_at_call 56; refine (hlt _).mono ?_; rintro e w1 ⟨rfl, rfl⟩) | (go_at_call 57; refine (hdg _).mono ?_; rintro e w1 ⟨rfl, rfl⟩))
        go_ret
        exact ⟨by rw [hv.out]; first | rfl | (simp only [bne]; rfl), rfl⟩
    have hr := Lib.hid (show Ch.legI p 1 l k = false by rw [HL.out]; exact Ch.legC_off (by omega))
    have f1 : decide (p = 1) = false := decide_eq_false q1
    have f2 : decide (p = 2) = false := decide_eq_false q2
    have f3 : decide (p = 3) = false := decide_eq_false q3
    have f4 : decide (p = 4) = false := decide_eq_false q4
    clear HL hso
    go_enter Tryz.func83, Tryz.ntmps83
    go_wp2
    go_ret
    exact ⟨by rw [hr.out]; rfl, rfl⟩

end Go.Proofs.YtgoibhbmndpgpaaGreatDoor

/- The walks of the reference's Bad, Is (layer 12). -/
set_option maxRecDepth 100000
set_option linter.unusedVariables false
set_option linter.unusedSimpArgs false
namespace Go.Proofs.YtgoibhbmndpgpaaGreatDoor
open Go.RowKit

set_option maxHeartbeats 1000000 in
theorem rbadc_calls (p s : Int) (l : List UInt8) (w : World) (hl : l.length ≤ maxLen) :
    Calls Tryz.prog 55 #[.int .i64 p, .int .i64 s, .string (str l)] w fun e w' => e = .returned (.int .i64 (Ch.bad p s l)) ∧ w = w' := by
  have hl' := hl
  unfold maxLen at hl'
  have hsz := str_size l
  go_enter Tryz.func55, Tryz.ntmps55
  go_wp2_with fail
  go_loopw [7] (fun v wr => ∃ k : Nat, k ≤ l.length ∧ Hid (Ch.bad p s l = Ch.badGo p s l (l.length - k) k) ∧ v = .int .i64 (k : Nat) ∧ w = wr) (fun v _ => l.length - (intOf v).toNat)
  case atStart => exact ⟨0, by omega, rfl, rfl, rfl⟩
  case round =>
    obtain ⟨k, hk, H, rfl, rfl⟩ := hrel
    by_cases h : k < l.length
    · have hc := rlegal_calls p s l (k : Int) w hl
      rw [Ch.legI_at] at hc
      have hB := Lib.hid (show Ch.badGo p s l (l.length - k) k = if Ch.leg p s l k then Ch.badGo p s l (l.length - (k + 1)) (k + 1) else (k : Int) by
        rw [show l.length - k = (l.length - (k + 1)) + 1 by omega]; rfl)
      cases hg : Ch.leg p s l k
      · have hr := Lib.hid (show Ch.bad p s l = (k : Int) by rw [H.out, hB.out, hg]; rfl)
        rw [hg] at hc
        go_wp2_with fail
        refine hc.mono ?_; rintro e w1 ⟨rfl, rfl⟩
        go_wp2
        go_ret
        exact ⟨by rw [hr.out]; rfl, rfl⟩
      · have hr := Lib.hid (show Ch.bad p s l = Ch.badGo p s l (l.length - (k + 1)) (k + 1) by rw [H.out, hB.out, hg]; rfl)
        rw [hg] at hc
        go_wp2_with fail
        refine hc.mono ?_; rintro e w1 ⟨rfl, rfl⟩
        go_wp2
        go_roundw
        case rel => exact ⟨k + 1, h, hr.out, by go_num, trivial⟩
        case measure => simp [intOf]; omega
    · have hr := Lib.hid (show Ch.bad p s l = -1 by rw [H.out, show l.length - k = 0 by omega]; rfl)
      go_wp2
      go_ret
      exact ⟨by rw [hr.out]; rfl, rfl⟩

set_option maxHeartbeats 1000000 in
theorem risc_calls (p s : Int) (l : List UInt8) (w : World) (hl : l.length ≤ maxLen) :
    Calls Tryz.prog 37 #[.int .i64 p, .int .i64 s, .string (str l)] w fun e w' => e = .returned (.bool (Ch.isName p s l)) ∧ w = w' := by
  have hsz := str_size l
  have hb := rbadc_calls p s l w hl
  have HR := Lib.hid (Ch.isName_ref p s l)
  unfold maxLen at hl
  by_cases h1 : 1 ≤ l.length
  · have d1 : decide ((1 : Int) ≤ (l.length : Int)) = true := decide_eq_true (by omega)
    have d1' : decide (1 ≤ l.length) = true := decide_eq_true h1
    by_cases h2 : l.length ≤ 60
    · have d2 : decide ((l.length : Int) ≤ 60) = true := decide_eq_true (by omega)
      have d2' : decide (l.length ≤ 60) = true := decide_eq_true h2
      by_cases h3 : 1 ≤ p
      · have d3 : decide (1 ≤ p) = true := decide_eq_true h3
        by_cases h4 : p ≤ 4
        · have d4 : decide (p ≤ 4) = true := decide_eq_true h4
          by_cases hs : s = 0 ∨ s = 1
          · have hr := Lib.hid (show Ch.isName p s l = decide (Ch.bad p s l < 0) by
              rw [HR.out, d1', d2', d3, d4, show (decide (s = 0) || decide (s = 1)) = true by rcases hs with rfl | rfl <;> rfl]; rfl)
            generalize Ch.bad p s l = z at *
            rcases hs with rfl | rfl
            all_goals
              go_enter Tryz.func37, Tryz.ntmps37
              go_wp2_with fail
              refine hb.mono ?_; rintro e w1 ⟨rfl, rfl⟩
              go_wp2
              go_ret
              exact ⟨by rw [hr.out]; rfl, rfl⟩
          · have n0 : ¬ s = 0 := fun e => hs (Or.inl e)
            have n1 : ¬ s = 1 := fun e => hs (Or.inr e)
            have e0 : decide (s = 0) = false := decide_eq_false n0
            have e1 : decide (s = 1) = false := decide_eq_false n1
            have b0 : (s == 0) = false := by simpa using n0
            have b1 : (s == 1) = false := by simpa using n1
            have bb : (s == 0 || s == 1) = false := by rw [b0, b1]; rfl
            have hr := Lib.hid (show Ch.isName p s l = false by rw [HR.out, e0, e1]; simp)
            go_enter Tryz.func37, Tryz.ntmps37
            go_wp2_with (refine hb.mono ?_; rintro e w1 ⟨rfl, rfl⟩)
            go_ret
            exact ⟨by rw [hr.out]; rfl, rfl⟩
        · have d4 : decide (p ≤ 4) = false := decide_eq_false h4
          have hr := Lib.hid (show Ch.isName p s l = false by rw [HR.out, d4]; simp)
          go_enter Tryz.func37, Tryz.ntmps37
          go_wp2
          go_ret
          exact ⟨by rw [hr.out]; rfl, rfl⟩
      · have d3 : decide (1 ≤ p) = false := decide_eq_false h3
        have hr := Lib.hid (show Ch.isName p s l = false by rw [HR.out, d3]; simp)
        go_enter Tryz.func37, Tryz.ntmps37
        go_wp2
        go_ret
        exact ⟨by rw [hr.out]; rfl, rfl⟩
    · have d2 : decide ((l.length : Int) ≤ 60) = false := decide_eq_false (by omega)
      have d2' : decide (l.length ≤ 60) = false := decide_eq_false h2
      have hr := Lib.hid (show Ch.isName p s l = false by rw [HR.out, d2']; simp)
      go_enter Tryz.func37, Tryz.ntmps37
      go_wp2
      go_ret
      exact ⟨by rw [hr.out]; rfl, rfl⟩
  · have d1 : decide ((1 : Int) ≤ (l.length : Int)) = false := decide_eq_false (by omega)
    have d1' : decide (1 ≤ l.length) = false := decide_eq_false h1
    have hr := Lib.hid (show Ch.isName p s l = false by rw [HR.out, d1']; rfl)
    go_enter Tryz.func37, Tryz.ntmps37
    go_wp2
    go_ret
    exact ⟨by rw [hr.out]; rfl, rfl⟩

end Go.Proofs.YtgoibhbmndpgpaaGreatDoor
