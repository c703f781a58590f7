/- Plain facts for the law CharsetBytes: kinds of bytes. -/
import Derived.Test.YtaljohmiiigecaaDoorChPlain
set_option maxRecDepth 100000
set_option linter.unusedVariables false
set_option linter.unusedSimpArgs false
namespace Go.Proofs.YtaljohmiiigecaaDoor

theorem chbeq {x k : Int} (h : ¬ x = k) : (x == k) = false := by simpa using h
theorem chbne {x k : Int} (h : ¬ x = k) : (x != k) = true := by simpa using h
namespace Ch
/-- kinds of bytes: a letter, a digit, _, -, :, ., #, a backslash, another one of a line, one ahead of them, one behind them -/
def kindB (c : UInt8) : Nat :=
  if letter c then 0 else if digit c then 1 else if c.toNat = 95 then 2 else if c.toNat = 45 then 3 else if c.toNat = 58 then 4 else if c.toNat = 46 then 5 else if c.toNat = 35 then 6 else if c.toNat = 92 then 7
  else if c.toNat < 32 then 9 else if 126 < c.toNat then 10 else 8
def kTab (l : List Bool) (k : Nat) : Bool := l.getD k false
theorem kind_lt (c : UInt8) : kindB c < 11 := by revert c; exact all_bytes (by decide +kernel)
theorem one_10 (c : UInt8) : isName 1 0 [c] = kTab [true, false, true, false, true, false, false, false, false, false, false] (kindB c) := by revert c; exact all_bytes (by decide +kernel)
theorem two_10 (c : UInt8) : isName 1 0 [97, c, 97] = kTab [true, true, true, false, true, false, false, false, false, false, false] (kindB c) := by revert c; exact all_bytes (by decide +kernel)
theorem one_20 (c : UInt8) : isName 2 0 [c] = kTab [true, true, true, true, true, true, false, false, true, false, false] (kindB c) := by revert c; exact all_bytes (by decide +kernel)
theorem two_20 (c : UInt8) : isName 2 0 [97, c, 97] = kTab [true, true, true, true, true, true, true, false, true, false, false] (kindB c) := by revert c; exact all_bytes (by decide +kernel)
theorem one_30 (c : UInt8) : isName 3 0 [c] = kTab [true, true, true, true, true, false, false, false, false, false, false] (kindB c) := by revert c; exact all_bytes (by decide +kernel)
theorem two_30 (c : UInt8) : isName 3 0 [97, c, 97] = kTab [true, true, true, true, true, true, false, false, false, false, false] (kindB c) := by revert c; exact all_bytes (by decide +kernel)
theorem one_40 (c : UInt8) : isName 4 0 [c] = kTab [true, true, true, true, false, true, false, false, false, false, false] (kindB c) := by revert c; exact all_bytes (by decide +kernel)
theorem two_40 (c : UInt8) : isName 4 0 [97, c, 97] = kTab [true, true, true, true, false, true, false, false, false, false, false] (kindB c) := by revert c; exact all_bytes (by decide +kernel)
theorem one_11 (c : UInt8) : isName 1 1 [c] = kTab [true, false, true, false, false, false, false, false, false, false, false] (kindB c) := by revert c; exact all_bytes (by decide +kernel)
theorem two_11 (c : UInt8) : isName 1 1 [97, c, 97] = kTab [true, true, true, false, false, false, false, false, false, false, false] (kindB c) := by revert c; exact all_bytes (by decide +kernel)
theorem one_21 (c : UInt8) : isName 2 1 [c] = kTab [true, true, true, true, true, true, true, false, true, false, false] (kindB c) := by revert c; exact all_bytes (by decide +kernel)
theorem two_21 (c : UInt8) : isName 2 1 [97, c, 97] = kTab [true, true, true, true, true, true, true, false, true, false, false] (kindB c) := by revert c; exact all_bytes (by decide +kernel)
theorem one_31 (c : UInt8) : isName 3 1 [c] = kTab [true, true, true, true, true, false, false, false, false, false, false] (kindB c) := by revert c; exact all_bytes (by decide +kernel)
theorem two_31 (c : UInt8) : isName 3 1 [97, c, 97] = kTab [true, true, true, true, true, false, false, false, false, false, false] (kindB c) := by revert c; exact all_bytes (by decide +kernel)
theorem one_41 (c : UInt8) : isName 4 1 [c] = kTab [true, true, true, true, false, true, false, false, false, false, false] (kindB c) := by revert c; exact all_bytes (by decide +kernel)
theorem two_41 (c : UInt8) : isName 4 1 [97, c, 97] = kTab [true, true, true, true, false, true, false, false, false, false, false] (kindB c) := by revert c; exact all_bytes (by decide +kernel)
theorem kd_lower (c : UInt8) : 97 ≤ c.toNat → c.toNat ≤ 122 → kindB c = 0 := by revert c; exact all_bytes (by decide +kernel)
theorem kd_upper (c : UInt8) : 65 ≤ c.toNat → c.toNat ≤ 90 → kindB c = 0 := by revert c; exact all_bytes (by decide +kernel)
theorem kd_digit (c : UInt8) : 48 ≤ c.toNat → c.toNat ≤ 57 → kindB c = 1 := by revert c; exact all_bytes (by decide +kernel)
theorem kd_c95 (c : UInt8) : 95 ≤ c.toNat → c.toNat ≤ 95 → kindB c = 2 := by revert c; exact all_bytes (by decide +kernel)
theorem kd_c45 (c : UInt8) : 45 ≤ c.toNat → c.toNat ≤ 45 → kindB c = 3 := by revert c; exact all_bytes (by decide +kernel)
theorem kd_c58 (c : UInt8) : 58 ≤ c.toNat → c.toNat ≤ 58 → kindB c = 4 := by revert c; exact all_bytes (by decide +kernel)
theorem kd_c46 (c : UInt8) : 46 ≤ c.toNat → c.toNat ≤ 46 → kindB c = 5 := by revert c; exact all_bytes (by decide +kernel)
theorem kd_c35 (c : UInt8) : 35 ≤ c.toNat → c.toNat ≤ 35 → kindB c = 6 := by revert c; exact all_bytes (by decide +kernel)
theorem kd_c92 (c : UInt8) : 92 ≤ c.toNat → c.toNat ≤ 92 → kindB c = 7 := by revert c; exact all_bytes (by decide +kernel)
theorem kd_low (c : UInt8) : 0 ≤ c.toNat → c.toNat ≤ 31 → kindB c = 9 := by revert c; exact all_bytes (by decide +kernel)
theorem kd_high (c : UInt8) : 127 ≤ c.toNat → c.toNat ≤ 255 → kindB c = 10 := by revert c; exact all_bytes (by decide +kernel)
theorem rg_other (c : UInt8) : kindB c = 8 → 32 ≤ c.toNat ∧ c.toNat ≤ 126 ∧ ¬ (97 ≤ c.toNat ∧ c.toNat ≤ 122) ∧ ¬ (65 ≤ c.toNat ∧ c.toNat ≤ 90) ∧ ¬ (48 ≤ c.toNat ∧ c.toNat ≤ 57) ∧ c.toNat ≠ 95 ∧ c.toNat ≠ 45 ∧ c.toNat ≠ 58 ∧ c.toNat ≠ 46 ∧ c.toNat ≠ 35 ∧ c.toNat ≠ 92 := by revert c; exact all_bytes (by decide +kernel)
theorem kd_all (c : UInt8) : kindB c = 8 ∨ (97 ≤ c.toNat ∧ c.toNat ≤ 122) ∨ (65 ≤ c.toNat ∧ c.toNat ≤ 90) ∨ (48 ≤ c.toNat ∧ c.toNat ≤ 57) ∨ (95 ≤ c.toNat ∧ c.toNat ≤ 95) ∨ (45 ≤ c.toNat ∧ c.toNat ≤ 45) ∨ (58 ≤ c.toNat ∧ c.toNat ≤ 58) ∨ (46 ≤ c.toNat ∧ c.toNat ≤ 46) ∨ (35 ≤ c.toNat ∧ c.toNat ≤ 35) ∨ (92 ≤ c.toNat ∧ c.toNat ≤ 92) ∨ (0 ≤ c.toNat ∧ c.toNat ≤ 31) ∨ (127 ≤ c.toNat ∧ c.toNat ≤ 255) := by revert c; exact all_bytes (by decide +kernel)
end Ch
end Go.Proofs.YtaljohmiiigecaaDoor
