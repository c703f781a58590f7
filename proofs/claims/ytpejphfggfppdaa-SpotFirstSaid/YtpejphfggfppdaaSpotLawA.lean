/- The walk of the law SpotAhead. -/
import Derived.Test.YtpejphfggfppdaaSpotK
import Derived.Test.YtpejphfggfppdaaFrame
namespace Go.Proofs.Ytpejphfggfppdaa
open Go.RowKit
attribute [local go_sem ↓] Go.wp_at_zero Go.wp_at_succ

theorem tmod_nat (i : Int) (n : Nat) (hi : 0 ≤ i) : ∃ a : Nat, i.tmod ((n : Int) + 1) = a ∧ a ≤ n := by
  have h1 := Int.emod_nonneg i (show (n : Int) + 1 ≠ 0 by omega)
  have h2 := Int.emod_lt_of_pos i (show (0 : Int) < (n : Int) + 1 by omega)
  exact ⟨(i.tmod ((n : Int) + 1)).toNat, by rw [Int.tmod_eq_emod_of_nonneg hi]; omega, by rw [Int.tmod_eq_emod_of_nonneg hi]; omega⟩
theorem at_in (c : Int) (hc : c ≠ 0) (s : ByteArray) (k : Nat) (h : k ≤ s.size) : Sp.at c s k = ⟨c, k, Sp.line s k, Sp.col s k⟩ := by
  unfold Sp.at; rw [if_neg hc, Sp.off_in s k h]

set_option maxHeartbeats 2000000 in
theorem ahead_walk (s : ByteArray) (i k : Int) (w : World) (hi : 0 ≤ i) (hi2 : i ≤ 65535) (hk : 0 ≤ k) (hk2 : k ≤ 65535) :
    Calls Try.prog 5 #[.string s, .int .u16 i, .int .u16 k] w fun e w' => e = .returned (.bool true) ∧ Below w.heap.size w w' := by
  by_cases hs : s.size ≤ 300
  · have ds : decide ((300 : Int) < (s.size : Int)) = false := by simp; omega
    have hw : IntKind.i64.wrap ((s.size : Int) + 1) = (s.size : Int) + 1 := IntWalk.i64_in _ (by omega)
    have wi : IntKind.i64.wrap i = i := IntWalk.i64_in _ (by omega)
    have wk : IntKind.i64.wrap k = k := IntWalk.i64_in _ (by omega)
    obtain ⟨a, ha, hal⟩ : ∃ a : Nat, i.tmod ((s.size : Int) + 1) = a ∧ a ≤ s.size := tmod_nat i s.size hi
    obtain ⟨b, hb, hbl⟩ : ∃ b : Nat, k.tmod ((s.size : Int) + 1) = b ∧ b ≤ s.size := tmod_nat k s.size hk
    have aa := fun W => at_calls 11 s a W (by omega)
    have ab := fun W => at_calls 11 s b W (by omega)
    have oa := fun W => of_calls s a W (by omega)
    rw [at_in 11 (by decide) s a hal] at aa
    rw [at_in 11 (by decide) s b hbl] at ab
    rw [Sp.off_in s a hal] at oa
    have Aa := Lib.hid aa
    have Ab := Lib.hid ab
    have Oa := Lib.hid oa
    clear aa ab oa
    go_enter Try.func5, Try.ntmps5
    go_wp2_with fail
    refine (known_calls _).mono ?_; rintro e w1 ⟨rfl, b1⟩
    go_wp2_with fail
    go_quiet (fail)
    have Ha := Lib.hid ha
    have Hb := Lib.hid hb
    clear wi wk ha hb hw
    go_wp2_with fail
    refine (Aa.out _).mono ?_; rintro e w2 ⟨rfl, b2⟩
    go_wp2_with fail
    refine (Ab.out _).mono ?_; rintro e w3 ⟨rfl, b3⟩
    go_upto_region 7 with fail
    have ca := Sp.col_le s a hal
    have cb := Sp.col_le s b hbl
    have hah : a ≤ b → Sp.line s a < Sp.line s b ∨ (Sp.line s a = Sp.line s b ∧ Sp.col s b = Sp.col s a + (b - a)) := fun h => by
      have := Sp.ahead s a (b - a) (by omega)
      rwa [show a + (b - a) = b by omega] at this
    generalize Sp.line s a = la at *
    generalize Sp.col s a = ka at *
    generalize Sp.line s b = lb at *
    generalize Sp.col s b = kb at *
    obtain ⟨W1, hW1⟩ : ∃ W1 : World, W1 = (w3.alloc (.cells #[.int .i64 11, .int .i64 a, .int .i64 la, .int .i64 ka] 30)).alloc (.cells #[.int .i64 11, .int .i64 b, .int .i64 lb, .int .i64 kb] 30) := ⟨_, rfl⟩
    rw [← hW1]
    have x1 := (FtAt.new w3 ⟨11, a, la, ka⟩ 30).below ((Below.refl _ _).alloc (Nat.le_refl _) (.cells #[.int .i64 11, .int .i64 b, .int .i64 lb, .int .i64 kb] 30)) (by simp)
    have x2 := FtAt.new (w3.alloc (.cells #[.int .i64 11, .int .i64 a, .int .i64 la, .int .i64 ka] 30)) ⟨11, b, lb, kb⟩ 30
    rw [show (w3.alloc (.cells #[.int .i64 11, .int .i64 a, .int .i64 la, .int .i64 ka] 30)).heap.size = w3.heap.size + 1 by simp] at x2
    rw [← hW1] at x1 x2
    have bW : Below w.heap.size w W1 := by
      rw [hW1]
      have h1 := trans9 b1 ((below_drewN (Below.refl _ _) _).trans (b2.mono (Nat.le_refl _)))
      exact ((trans9 h1 b3).alloc (trans9 h1 b3).size _).alloc (by have := (trans9 h1 b3).size; simp; omega) _
    obtain ⟨r0, r1, r2, r3⟩ := x1.rules
    obtain ⟨q0, q1, q2, q3⟩ := x2.rules
    clear x1 x2 hW1 b1 b2 b3
    have bf := fun W => before_calls a la ka b lb kb W
    have Hah := Lib.hid hah
    clear hah
    by_cases hab : a < b
    · have d1 : decide ((a : Int) < (b : Int)) = true := by simp; omega
      have d2 : decide (a < b) = true := by simpa using hab
      rw [d1] at bf
      have Bf := Lib.hid bf
      clear bf
      go_region_held3 (fun x => Below W1.heap.size W1 x) (((repeat' first | assumption | exact Below.refl _ _ | exact Nat.le_refl _ | apply kp_alloc | apply kp_set | apply Below.drew | omega); done))
        (first
          | (go_at_call 14; refine (Bf.out _).mono ?_; rintro e w4 ⟨rfl, b4⟩; have k4 : Below W1.heap.size W1 w4 := (by refine trans9 ?_ b4; (repeat' first | assumption | exact Below.refl _ _ | exact Nat.le_refl _ | apply kp_alloc | apply kp_set | apply Below.drew | omega)))
          | (go_at_call 8; refine (Oa.out _).mono ?_; rintro e w5 ⟨rfl, b5⟩; have k5 : Below W1.heap.size W1 w5 := (by refine trans9 ?_ b5; (repeat' first | assumption | exact Below.refl _ _ | exact Nat.le_refl _ | apply kp_alloc | apply kp_set | apply Below.drew | omega))))
      have d3 : decide ((b : Int) < (a : Int)) = false := by simp; omega
      have d4 : decide (b < a) = false := by simp; omega
      rcases Hah.out (by omega) with hl | ⟨hl, hc⟩
      · have d5 : decide ((la : Int) < (lb : Int)) = true := by simp; omega
        have d6 : decide (la < lb) = true := by simp; omega
        go_wp2
        go_ret
        exact ⟨rfl, trans9 bW k5⟩
      · subst hl
        subst hc
        go_wp2
        go_ret
        exact ⟨ret_bool (by simp; omega), trans9 bW k5⟩
    · have d1 : decide ((a : Int) < (b : Int)) = false := by simp; omega
      have d2 : decide (a < b) = false := by simpa using hab
      rw [d1] at bf
      have Bf := Lib.hid bf
      clear bf
      go_region_held3 (fun x => Below W1.heap.size W1 x) (((repeat' first | assumption | exact Below.refl _ _ | exact Nat.le_refl _ | apply kp_alloc | apply kp_set | apply Below.drew | omega); done))
        (first
          | (go_at_call 14; refine (Bf.out _).mono ?_; rintro e w4 ⟨rfl, b4⟩; have k4 : Below W1.heap.size W1 w4 := (by refine trans9 ?_ b4; (repeat' first | assumption | exact Below.refl _ _ | exact Nat.le_refl _ | apply kp_alloc | apply kp_set | apply Below.drew | omega)))
          | (go_at_call 8; refine (Oa.out _).mono ?_; rintro e w5 ⟨rfl, b5⟩; have k5 : Below W1.heap.size W1 w5 := (by refine trans9 ?_ b5; (repeat' first | assumption | exact Below.refl _ _ | exact Nat.le_refl _ | apply kp_alloc | apply kp_set | apply Below.drew | omega))))
      by_cases hba : b < a
      · have d3 : decide ((b : Int) < (a : Int)) = true := by simp; omega
        have d4 : decide (b < a) = true := by simp; omega
        go_wp2
        go_ret
        exact ⟨rfl, trans9 bW k5⟩
      · obtain rfl : a = b := by omega
        have d3 : decide ((a : Int) < (a : Int)) = false := by simp
        rcases Hah.out (by omega) with hl | ⟨hl, hc⟩
        · have d5 : decide ((la : Int) < (lb : Int)) = true := by simp; omega
          have d6 : decide (la < lb) = true := by simp; omega
          go_wp2
          go_ret
          exact ⟨rfl, trans9 bW k5⟩
        · subst hl
          subst hc
          go_wp2
          go_ret
          exact ⟨ret_bool (by simp), trans9 bW k5⟩
  · have ds : decide ((300 : Int) < (s.size : Int)) = true := by simp; omega
    go_enter Try.func5, Try.ntmps5
    go_wp2_with fail
    refine (known_calls _).mono ?_; rintro e w1 ⟨rfl, b1⟩
    go_wp2
    go_ret
    exact ⟨rfl, b1⟩

end Go.Proofs.Ytpejphfggfppdaa
