/- The walk of the law FamilyKinds. -/
import Derived.Test.YtjkaggkamcfahaaDoorFamK
set_option maxRecDepth 100000
set_option linter.unusedVariables false
set_option linter.unusedSimpArgs false
namespace Go.Proofs.YtjkaggkamcfahaaDoor
open Go.RowKit Dc
attribute [local go_sem ↓] Go.wp_at_zero Go.wp_at_succ

theorem wordL_at {i : Nat} (h : i < 5) : wordL (i : Int) = wordAt i := by
  rcases (by omega : i = 0 ∨ i = 1 ∨ i = 2 ∨ i = 3 ∨ i = 4) with rfl | rfl | rfl | rfl | rfl <;> rfl
theorem kindO_word {s : List UInt8} {i : Nat} (h : kindO s = some i) : i < 5 ∧ wordL (i : Int) = s := by
  rw [kindO_eq] at h
  repeat' split at h
  all_goals first
    | (cases h; done)
    | (obtain rfl := Option.some.inj h; refine ⟨by omega, ?_⟩; rw [wordL_at (by omega)]; assumption)
theorem kindO_wordL {i : Nat} (h : i < 5) : kindO (wordL (i : Int)) = some i := by
  rcases (by omega : i = 0 ∨ i = 1 ∨ i = 2 ∨ i = 3 ∨ i = 4) with rfl | rfl | rfl | rfl | rfl <;> decide
theorem wordL_in {k : Int} (h : 0 ≤ k) (h2 : k ≤ 4) : (wordL k == []) = false := by
  rcases (by omega : k = 0 ∨ k = 1 ∨ k = 2 ∨ k = 3 ∨ k = 4) with rfl | rfl | rfl | rfl | rfl <;> decide
theorem wordL_out {k : Int} (h : k < 0 ∨ 4 < k) : wordL k = [] := by
  unfold wordL
  rw [if_neg (by omega), if_neg (by omega), if_neg (by omega), if_neg (by omega), if_neg (by omega)]

set_option maxHeartbeats 8000000 in
theorem kinds_walk (k : Int) (s : List UInt8) (w : World) (hs : s.length ≤ maxLen) (hT : FamT w) :
    Calls Tryd.prog 5 #[.int .i64 k, .string (str s)] w fun e w' => e = .returned (.bool true) ∧ Below w.heap.size w w' := by
  unfold maxLen at hs
  have hsz := str_size s
  have hk := Lib.hid (fknown_calls w hT)
  have HT := Lib.hid (fun W (hW : Below w.heap.size w W) => hT.below hW)
  clear hT
  go_enter Tryd.func5, Tryd.ntmps5
  go_wp2_with fail
  refine hk.out.mono ?_; rintro e w1 ⟨rfl, b1⟩
  have B1 := Lib.hid b1
  clear hk b1
  by_cases h1 : (100 : Int) < (s.length : Int)
  · have d1 : decide ((100 : Int) < (s.length : Int)) = true := decide_eq_true h1
    have d1' : decide (100 < s.length) = true := by simp; omega
    go_wp2
    go_ret
    exact ⟨rfl, B1.out⟩
  have d1 : decide ((100 : Int) < (s.length : Int)) = false := decide_eq_false h1
  have d1' : decide (100 < s.length) = false := by simp; omega
  clear h1 hs
  have hty := Lib.hid (fun j => typed_calls j w1 (HT.out w1 B1.out).wd)
  have hki := Lib.hid (fun u => kind_calls u w1 (HT.out w1 B1.out).wd)
  have hk0 := Lib.hid (hki.out (wordL 0))
  have hk1 := Lib.hid (hki.out (wordL 1))
  have hk2 := Lib.hid (hki.out (wordL 2))
  have hk3 := Lib.hid (hki.out (wordL 3))
  have hk4 := Lib.hid (hki.out (wordL 4))
  rw [show kindO (wordL 0) = some 0 from kindO_wordL (i := 0) (by omega)] at hk0
  rw [show kindO (wordL 1) = some 1 from kindO_wordL (i := 1) (by omega)] at hk1
  rw [show kindO (wordL 2) = some 2 from kindO_wordL (i := 2) (by omega)] at hk2
  rw [show kindO (wordL 3) = some 3 from kindO_wordL (i := 3) (by omega)] at hk3
  rw [show kindO (wordL 4) = some 4 from kindO_wordL (i := 4) (by omega)] at hk4
  go_wp2_with fail
  go_loop [5] (fun v => ∃ j : Nat, j ≤ 5 ∧ v = .int .i64 (j : Nat)) (fun v => 5 - (intOf v).toNat)
  case atStart => exact ⟨0, Nat.zero_le _, rfl⟩
  case round =>
    obtain ⟨j, hj, rfl⟩ := hrel
    have hk5 : j = 0 ∨ j = 1 ∨ j = 2 ∨ j = 3 ∨ j = 4 ∨ j = 5 := by omega
    clear hj
    rcases hk5 with rfl | rfl | rfl | rfl | rfl | rfl
    · rw [show ((0 : Nat) : Int) = 0 from rfl]
      go_wp2_with fail
      refine (hty.out _).mono ?_; rintro e w2 ⟨rfl, rfl⟩
      go_wp2_with fail
      refine hk0.out.mono ?_; rintro e w3 ⟨rfl, rfl⟩
      go_wp2_with fail
      go_round
      case rel => exact ⟨1, by omega, rfl⟩
      case measure => simp [intOf]
    · rw [show ((1 : Nat) : Int) = 1 from rfl]
      go_wp2_with fail
      refine (hty.out _).mono ?_; rintro e w2 ⟨rfl, rfl⟩
      go_wp2_with fail
      refine hk1.out.mono ?_; rintro e w3 ⟨rfl, rfl⟩
      go_wp2_with fail
      go_round
      case rel => exact ⟨2, by omega, rfl⟩
      case measure => simp [intOf]
    · rw [show ((2 : Nat) : Int) = 2 from rfl]
      go_wp2_with fail
      refine (hty.out _).mono ?_; rintro e w2 ⟨rfl, rfl⟩
      go_wp2_with fail
      refine hk2.out.mono ?_; rintro e w3 ⟨rfl, rfl⟩
      go_wp2_with fail
      go_round
      case rel => exact ⟨3, by omega, rfl⟩
      case measure => simp [intOf]
    · rw [show ((3 : Nat) : Int) = 3 from rfl]
      go_wp2_with fail
      refine (hty.out _).mono ?_; rintro e w2 ⟨rfl, rfl⟩
      go_wp2_with fail
      refine hk3.out.mono ?_; rintro e w3 ⟨rfl, rfl⟩
      go_wp2_with fail
      go_round
      case rel => exact ⟨4, by omega, rfl⟩
      case measure => simp [intOf]
    · rw [show ((4 : Nat) : Int) = 4 from rfl]
      go_wp2_with fail
      refine (hty.out _).mono ?_; rintro e w2 ⟨rfl, rfl⟩
      go_wp2_with fail
      refine hk4.out.mono ?_; rintro e w3 ⟨rfl, rfl⟩
      go_wp2_with fail
      go_round
      case rel => exact ⟨5, by omega, rfl⟩
      case measure => simp [intOf]
    · rw [show ((5 : Nat) : Int) = 5 from rfl]
      clear hk0 hk1 hk2 hk3 hk4
      have hks := Lib.hid (hki.out s)
      have hw : Hid ((kindO s = none) ∨ ∃ i : Nat, kindO s = some i ∧ wordL (i : Int) = s) := by
        cases h : kindO s with
        | none => exact Or.inl rfl
        | some i => exact Or.inr ⟨i, rfl, (kindO_word h).2⟩
      by_cases hlo : k < 0
      · have d2 : decide (k < 0) = true := decide_eq_true hlo
        have he := Lib.hid (hty.out k)
        rw [wordL_out (Or.inl hlo)] at he
        clear hlo
        rcases hw.out with h | ⟨i, h, hi⟩
        · rw [h] at hks
          go_wp2_with fail
          refine hks.out.mono ?_; rintro e w2 ⟨rfl, rfl⟩
          go_wp2_with fail
          refine he.out.mono ?_; rintro e w3 ⟨rfl, rfl⟩
          go_wp2
          go_ret
          exact ⟨rfl, B1.out⟩
        · rw [h] at hks
          have ht := Lib.hid (hty.out (i : Int))
          rw [hi] at ht
          go_wp2_with fail
          refine hks.out.mono ?_; rintro e w2 ⟨rfl, rfl⟩
          go_wp2_with fail
          refine he.out.mono ?_; rintro e w3 ⟨rfl, rfl⟩
          go_wp2_with fail
          refine ht.out.mono ?_; rintro e w4 ⟨rfl, rfl⟩
          go_wp2
          go_ret
          exact ⟨by simp, B1.out⟩
      · have d2 : decide (k < 0) = false := decide_eq_false hlo
        by_cases hhi : 4 < k
        · have d3 : decide (4 < k) = true := decide_eq_true hhi
          have he := Lib.hid (hty.out k)
          rw [wordL_out (Or.inr hhi)] at he
          clear hlo hhi
          rcases hw.out with h | ⟨i, h, hi⟩
          · rw [h] at hks
            go_wp2_with fail
            refine hks.out.mono ?_; rintro e w2 ⟨rfl, rfl⟩
            go_wp2_with fail
            refine he.out.mono ?_; rintro e w3 ⟨rfl, rfl⟩
            go_wp2
            go_ret
            exact ⟨rfl, B1.out⟩
          · rw [h] at hks
            have ht := Lib.hid (hty.out (i : Int))
            rw [hi] at ht
            go_wp2_with fail
            refine hks.out.mono ?_; rintro e w2 ⟨rfl, rfl⟩
            go_wp2_with fail
            refine he.out.mono ?_; rintro e w3 ⟨rfl, rfl⟩
            go_wp2_with fail
            refine ht.out.mono ?_; rintro e w4 ⟨rfl, rfl⟩
            go_wp2
            go_ret
            exact ⟨by simp, B1.out⟩
        · have d3 : decide (4 < k) = false := decide_eq_false hhi
          have dw := wordL_in (k := k) (by omega) (by omega)
          have he := Lib.hid (hty.out k)
          generalize wordL k = K at *
          clear hlo hhi
          rcases hw.out with h | ⟨i, h, hi⟩
          · rw [h] at hks
            go_wp2_with fail
            refine hks.out.mono ?_; rintro e w2 ⟨rfl, rfl⟩
            go_wp2_with fail
            refine he.out.mono ?_; rintro e w3 ⟨rfl, rfl⟩
            go_wp2
            go_ret
            exact ⟨rfl, B1.out⟩
          · rw [h] at hks
            have ht := Lib.hid (hty.out (i : Int))
            rw [hi] at ht
            go_wp2_with fail
            refine hks.out.mono ?_; rintro e w2 ⟨rfl, rfl⟩
            go_wp2_with fail
            refine he.out.mono ?_; rintro e w3 ⟨rfl, rfl⟩
            go_wp2_with fail
            refine ht.out.mono ?_; rintro e w4 ⟨rfl, rfl⟩
            go_wp2
            go_ret
            exact ⟨by simp, B1.out⟩

theorem kinds_text (k : Int) (s : ByteArray) (w : World) (hs : s.data.toList.length ≤ maxLen) (hT : FamT w) :
    Calls Tryd.prog 5 #[.int .i64 k, .string s] w fun e w' => e = .returned (.bool true) ∧ Below w.heap.size w w' := by
  have h := kinds_walk k s.data.toList w hs hT
  rwa [← str_self s] at h

end Go.Proofs.YtjkaggkamcfahaaDoor
