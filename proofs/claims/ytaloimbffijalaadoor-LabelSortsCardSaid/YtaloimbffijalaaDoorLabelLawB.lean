/- The walk of the law LabelOrder. -/
import Derived.Test.YtaloimbffijalaaDoorLabelK2
import Derived.Test.YtaloimbffijalaaDoorLabelCut
import Derived.Test.YtaloimbffijalaaDoorRefLabelB
set_option maxRecDepth 100000
set_option linter.unusedVariables false
set_option linter.unusedSimpArgs false
namespace Go.Proofs.YtaloimbffijalaaDoor
open Go.RowKit Go.Sort
attribute [local go_sem ↓] Go.wp_at_zero Go.wp_at_succ

theorem tmod_in (c : Int) (n : Nat) (h : 0 ≤ c) : ∃ k : Nat, k ≤ n ∧ c.tmod ((n : Int) + 1) = (k : Int) ∧ c % ((n : Int) + 1) = (k : Int) := by
  have h1 : c.tmod ((n : Int) + 1) = c % ((n : Int) + 1) := Int.tmod_eq_emod_of_nonneg h
  have h2 := Int.emod_nonneg c (show ((n : Int) + 1) ≠ 0 by omega)
  have h3 := Int.emod_lt_of_pos c (show 0 < ((n : Int) + 1) by omega)
  exact ⟨(c % ((n : Int) + 1)).toNat, by omega, by omega, by omega⟩
set_option maxHeartbeats 16000000 in
theorem order_walk (a b c : List Lb) (va vb vc : Value) (cut : Int) (w : World) (ha : LbRow w va a) (hb : LbRow w vb b) (hc : LbRow w vc c) (hc0 : 0 ≤ cut) (hc1 : cut ≤ 255) (hT : ShapesIn w) :
    Calls Tryd.prog 5 #[va, vb, vc, .int .u8 cut] w fun e w' => e = .returned (.bool true) ∧ Below w.heap.size w w' := by
  have HA := Lib.hid (fun W (hW : Below w.heap.size w W) => ha.below hW)
  have HB := Lib.hid (fun W (hW : Below w.heap.size w W) => hb.below hW)
  have HC := Lib.hid (fun W (hW : Below w.heap.size w W) => hc.below hW)
  have hk := Lib.hid (known_calls w hT)
  have ha' := ha
  obtain ⟨A, cap, rfl, hlc, hcm, _, _⟩ := ha'
  unfold maxLen at hcm
  obtain ⟨k, hkl, ht1, ht2⟩ := tmod_in cut a.length hc0
  obtain ⟨u, hto, hrow⟩ := lb_to ha k hkl
  have HU := Lib.hid (fun W (hW : Below w.heap.size w W) => hrow W (ha.below hW))
  clear hT ha hb hc hrow
  go_enter Tryd.func5, Tryd.ntmps5
  go_wp2_with fail
  refine hk.out.mono ?_; rintro e w1 ⟨rfl, b1⟩
  have B1 := Lib.hid b1
  clear b1 hk
  go_wp2_with fail
  refine (short_calls a _ w1 (HA.out _ B1.out)).mono ?_; rintro e w2 ⟨hsh, rfl⟩
  rcases hsh.ways with rfl | ⟨rfl, ha20⟩
  · clear hsh hto
    go_wp2
    go_ret
    exact ⟨rfl, B1.out⟩
  clear hsh
  go_wp2_with fail
  refine (short_calls b vb w1 (HB.out _ B1.out)).mono ?_; rintro e w2 ⟨hsh, rfl⟩
  rcases hsh.ways with rfl | ⟨rfl, hb20⟩
  · clear hsh hto
    go_wp2
    go_ret
    exact ⟨rfl, B1.out⟩
  clear hsh
  go_wp2_with fail
  refine (short_calls c vc w1 (HC.out _ B1.out)).mono ?_; rintro e w2 ⟨hsh, rfl⟩
  rcases hsh.ways with rfl | ⟨rfl, hc20⟩
  · clear hsh hto
    go_wp2
    go_ret
    exact ⟨rfl, B1.out⟩
  clear hsh
  have hab := Lib.hid (fun W v u (h : LbRow W v a) (k : LbRow W u b) => compare_calls a b v u W h k)
  have hbc := Lib.hid (fun W v u (h : LbRow W v b) (k : LbRow W u c) => compare_calls b c v u W h k)
  have hac := Lib.hid (fun W v u (h : LbRow W v a) (k : LbRow W u c) => compare_calls a c v u W h k)
  have hta := Lib.hid (fun W v u (h : LbRow W v (a.take k)) (k : LbRow W u a) => compare_calls _ a v u W h k)
  have hba := Lib.hid (fun W v u (h : LbRow W v b) (k : LbRow W u a) => compare_calls b a v u W h k)
  have hsa := Lib.hid (fun W v u (h : LbRow W v a) (k : LbRow W u b) => rsame_calls a b v u W h k)
  rw [cmpL_take a k hkl] at hta
  rw [cmpL_neg a b] at hba
  have hle := Lib.hid (cmpL_le_trans a b c)
  have hr1 := cmpL_range a b
  obtain ⟨Wk, hWk⟩ : ∃ q, (if k = a.length then (0 : Int) else -1) = q := ⟨_, rfl⟩
  rw [hWk] at hta
  have HW : Hid ((Wk = 0 ∧ k = a.length) ∨ (Wk = -1 ∧ k ≠ a.length)) := by
    by_cases h : k = a.length
    · rw [if_pos h] at hWk; exact Or.inl ⟨hWk.symm, h⟩
    · rw [if_neg h] at hWk; exact Or.inr ⟨hWk.symm, h⟩
  clear hWk
  generalize cmpL a b = X at *
  generalize cmpL b c = Y at *
  generalize cmpL a c = Z at *
  have hw1 : IntKind.i64.wrap ((a.length : Int) + 1) = (a.length : Int) + 1 := IntWalk.i64_in _ (by omega)
  have hw2 : IntKind.i64.wrap cut = cut := IntWalk.i64_in _ (by omega)
  have hw3 : IntKind.i64.wrap (k : Int) = (k : Int) := IntWalk.i64_in _ (by omega)
  have hnz : ¬ (a.length : Int) + 1 = 0 := by omega
  have hnz2 : ((a.length : Int) + 1 == 0) = false := by simpa using hnz
  have HKL := Lib.hid hkl
  clear ha20 hb20 hc20 hlc hcm hkl
  go_wp2_with fail
  refine (hab.out _ _ _ (HA.out _ B1.out) (HB.out _ B1.out)).mono ?_; rintro e w2 ⟨rfl, b2⟩
  have B2 := Lib.hid (trans9 B1.out b2)
  clear b2
  go_wp2_with fail
  refine (hbc.out _ _ _ (HB.out _ B2.out) (HC.out _ B2.out)).mono ?_; rintro e w3 ⟨rfl, b3⟩
  have B3 := Lib.hid (trans9 B2.out b3)
  clear b3
  go_wp2_with fail
  refine (hac.out _ _ _ (HA.out _ B3.out) (HC.out _ B3.out)).mono ?_; rintro e w4 ⟨rfl, b4⟩
  have B4 := Lib.hid (trans9 B3.out b4)
  clear b4
  go_wp2_with fail
  refine (hta.out _ _ _ (HU.out _ B4.out) (HA.out _ B4.out)).mono ?_; rintro e w5 ⟨rfl, b5⟩
  have B5 := Lib.hid (trans9 B4.out b5)
  clear b5
  go_wp2_with fail
  refine (hba.out _ _ _ (HB.out _ B5.out) (HA.out _ B5.out)).mono ?_; rintro e w6 ⟨rfl, b6⟩
  have B6 := Lib.hid (trans9 B5.out b6)
  clear b6
  clear hab hbc hac hta hba
  rcases HW.out with ⟨rfl, hkn⟩ | ⟨rfl, hkn⟩
  · rcases hr1 with rfl | rfl | rfl
    · have dkn : ((k : Int) == (a.length : Int)) = true := by simp; omega
      have Hkn := Lib.hid hkn
      clear hkn
      by_cases hY : Y ≤ 0
      · have dY : decide (Y ≤ 0) = true := decide_eq_true hY
        have dZ : decide (0 < Z) = false := decide_eq_false (by have := hle.out (by decide) hY; omega)
        go_wp2_with fail
        refine (hsa.out _ _ _ (HA.out _ B6.out) (HB.out _ B6.out)).mono ?_; rintro e w7 ⟨rfl, b7⟩
        go_wp2
        go_ret
        exact ⟨rfl, trans9 B6.out b7⟩
      · have dY : decide (Y ≤ 0) = false := decide_eq_false hY
        go_wp2_with fail
        refine (hsa.out _ _ _ (HA.out _ B6.out) (HB.out _ B6.out)).mono ?_; rintro e w7 ⟨rfl, b7⟩
        go_wp2
        go_ret
        exact ⟨rfl, trans9 B6.out b7⟩
    · have dkn : ((k : Int) == (a.length : Int)) = true := by simp; omega
      have Hkn := Lib.hid hkn
      clear hkn
      by_cases hY : Y ≤ 0
      · have dY : decide (Y ≤ 0) = true := decide_eq_true hY
        have dZ : decide (0 < Z) = false := decide_eq_false (by have := hle.out (by decide) hY; omega)
        go_wp2_with fail
        refine (hsa.out _ _ _ (HA.out _ B6.out) (HB.out _ B6.out)).mono ?_; rintro e w7 ⟨rfl, b7⟩
        go_wp2
        go_ret
        exact ⟨rfl, trans9 B6.out b7⟩
      · have dY : decide (Y ≤ 0) = false := decide_eq_false hY
        go_wp2_with fail
        refine (hsa.out _ _ _ (HA.out _ B6.out) (HB.out _ B6.out)).mono ?_; rintro e w7 ⟨rfl, b7⟩
        go_wp2
        go_ret
        exact ⟨rfl, trans9 B6.out b7⟩
    · have dkn : ((k : Int) == (a.length : Int)) = true := by simp; omega
      have Hkn := Lib.hid hkn
      clear hkn
      go_wp2_with fail
      refine (hsa.out _ _ _ (HA.out _ B6.out) (HB.out _ B6.out)).mono ?_; rintro e w7 ⟨rfl, b7⟩
      go_wp2
      go_ret
      exact ⟨rfl, trans9 B6.out b7⟩
  · rcases hr1 with rfl | rfl | rfl
    · have dkn : ((k : Int) == (a.length : Int)) = false := by simp; omega
      have Hkn := Lib.hid hkn
      clear hkn
      by_cases hY : Y ≤ 0
      · have dY : decide (Y ≤ 0) = true := decide_eq_true hY
        have dZ : decide (0 < Z) = false := decide_eq_false (by have := hle.out (by decide) hY; omega)
        go_wp2_with fail
        refine (hsa.out _ _ _ (HA.out _ B6.out) (HB.out _ B6.out)).mono ?_; rintro e w7 ⟨rfl, b7⟩
        go_wp2
        go_ret
        exact ⟨rfl, trans9 B6.out b7⟩
      · have dY : decide (Y ≤ 0) = false := decide_eq_false hY
        go_wp2_with fail
        refine (hsa.out _ _ _ (HA.out _ B6.out) (HB.out _ B6.out)).mono ?_; rintro e w7 ⟨rfl, b7⟩
        go_wp2
        go_ret
        exact ⟨rfl, trans9 B6.out b7⟩
    · have dkn : ((k : Int) == (a.length : Int)) = false := by simp; omega
      have Hkn := Lib.hid hkn
      clear hkn
      by_cases hY : Y ≤ 0
      · have dY : decide (Y ≤ 0) = true := decide_eq_true hY
        have dZ : decide (0 < Z) = false := decide_eq_false (by have := hle.out (by decide) hY; omega)
        go_wp2_with fail
        refine (hsa.out _ _ _ (HA.out _ B6.out) (HB.out _ B6.out)).mono ?_; rintro e w7 ⟨rfl, b7⟩
        go_wp2
        go_ret
        exact ⟨rfl, trans9 B6.out b7⟩
      · have dY : decide (Y ≤ 0) = false := decide_eq_false hY
        go_wp2_with fail
        refine (hsa.out _ _ _ (HA.out _ B6.out) (HB.out _ B6.out)).mono ?_; rintro e w7 ⟨rfl, b7⟩
        go_wp2
        go_ret
        exact ⟨rfl, trans9 B6.out b7⟩
    · have dkn : ((k : Int) == (a.length : Int)) = false := by simp; omega
      have Hkn := Lib.hid hkn
      clear hkn
      go_wp2_with fail
      refine (hsa.out _ _ _ (HA.out _ B6.out) (HB.out _ B6.out)).mono ?_; rintro e w7 ⟨rfl, b7⟩
      go_wp2
      go_ret
      exact ⟨rfl, trans9 B6.out b7⟩

end Go.Proofs.YtaloimbffijalaaDoor
