/- The walks of package family's small functions: isKind, Typed, Kind, suffix, Series. -/
import Derived.Test.YtkmcjmpdmgdcoaaGreatDoorFamRow
import Derived.Test.YtkmcjmpdmgdcoaaGreatDoorPointW
set_option maxRecDepth 100000
set_option linter.unusedVariables false
set_option linter.unusedSimpArgs false
namespace Go.Proofs.YtkmcjmpdmgdcoaaGreatDoor
open Go.RowKit Dc
attribute [local go_sem ↓] Go.wp_at_zero Go.wp_at_succ

theorem iskind_calls (k : Int) (w : World) : Calls Tryz.prog 70 #[.int .i64 k] w fun e w' => e = .returned (.bool (kindOk k)) ∧ w = w' := by
  unfold kindOk
  by_cases h0 : 0 ≤ k
  · have d0 : decide ((0 : Int) ≤ k) = true := decide_eq_true h0
    by_cases h1 : k < 5
    · have d1 : decide (k < 5) = true := decide_eq_true h1
      have hr := Lib.hid (decide_eq_true (show 0 ≤ k ∧ k < 5 from ⟨h0, h1⟩))
      rw [hr.out]
      clear hr
      go_enter Tryz.func70, Tryz.ntmps70
      go_wp2
      go_ret
      exact ⟨rfl, rfl⟩
    · have d1 : decide (k < 5) = false := decide_eq_false h1
      have hr := Lib.hid (decide_eq_false (fun h : 0 ≤ k ∧ k < 5 => h1 h.2))
      rw [hr.out]
      clear hr
      go_enter Tryz.func70, Tryz.ntmps70
      go_wp2
      go_ret
      exact ⟨rfl, rfl⟩
  · have d0 : decide ((0 : Int) ≤ k) = false := decide_eq_false h0
    have hr := Lib.hid (decide_eq_false (fun h : 0 ≤ k ∧ k < 5 => h0 h.1))
    rw [hr.out]
    clear hr
    go_enter Tryz.func70, Tryz.ntmps70
    go_wp2
    go_ret
    exact ⟨rfl, rfl⟩

def wordAt : Nat → List UInt8
  | 0 => [117, 110, 107, 110, 111, 119, 110]
  | 1 => [103, 97, 117, 103, 101]
  | 2 => [99, 111, 117, 110, 116, 101, 114]
  | 3 => [104, 105, 115, 116, 111, 103, 114, 97, 109]
  | 4 => [115, 117, 109, 109, 97, 114, 121]
  | _ => []
theorem kindO_eq (s : List UInt8) : kindO s = if wordAt 0 = s then some 0 else if wordAt 1 = s then some 1 else if wordAt 2 = s then some 2 else if wordAt 3 = s then some 3 else if wordAt 4 = s then some 4 else none := rfl
theorem kindO_at {s : List UInt8} {k : Nat} (hk : k < 5) (h : ∀ j, j < k → wordAt j ≠ s) (e : wordAt k = s) : kindO s = some k := by
  rw [kindO_eq]
  match k, hk with
  | 0, _ => rw [if_pos (e)]
  | 1, _ => rw [if_neg (h 0 (by omega)), if_pos (e)]
  | 2, _ => rw [if_neg (h 0 (by omega)), if_neg (h 1 (by omega)), if_pos (e)]
  | 3, _ => rw [if_neg (h 0 (by omega)), if_neg (h 1 (by omega)), if_neg (h 2 (by omega)), if_pos (e)]
  | 4, _ => rw [if_neg (h 0 (by omega)), if_neg (h 1 (by omega)), if_neg (h 2 (by omega)), if_neg (h 3 (by omega)), if_pos (e)]
theorem kindO_no {s : List UInt8} (h : ∀ j, j < 5 → wordAt j ≠ s) : kindO s = none := by
  rw [kindO_eq]
  rw [if_neg (h 0 (by omega)), if_neg (h 1 (by omega)), if_neg (h 2 (by omega)), if_neg (h 3 (by omega)), if_neg (h 4 (by omega))]
theorem sufL_len (k r : Int) : (sufL k r).length ≤ 7 := by unfold sufL; (repeat' split) <;> decide
/-- what Series hands back -/
def serV (o : Option (List UInt8)) : Value := .tuple #[.string (str (o.getD [])), .bool o.isSome]
end Go.Proofs.YtkmcjmpdmgdcoaaGreatDoor
