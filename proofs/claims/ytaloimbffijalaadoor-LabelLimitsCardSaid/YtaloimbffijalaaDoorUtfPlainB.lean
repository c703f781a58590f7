/- Plain mathematics of UTF-8: scalars, the number that bytes spell. -/
import Derived.Test.YtaloimbffijalaaDoorUtfPlain
set_option linter.unusedVariables false
set_option linter.unusedSimpArgs false
namespace Go.Proofs.YtaloimbffijalaaDoor.Utf

/-- is the number a scalar? -/
def isScalar (r : Int) : Bool := (decide (0 ≤ r) && decide (r < 55296)) || (decide (57343 < r) && decide (r < 1114112))

/-- the number that a scalar's bytes spell -/
def mark (n : Nat) : Nat := if n = 1 then 0 else if n = 2 then 192 else if n = 3 then 224 else 240
def joinOn : List UInt8 → Nat → Nat
  | [], r => r
  | c :: cs, r => joinOn cs (r * 64 + c.toNat % 64)
def val (l : List UInt8) : Int :=
  match l with
  | [] => 0
  | c :: cs => (joinOn cs (c.toNat ^^^ mark l.length) : Nat)

theorem mark_lt (n : Nat) : mark n < 256 := by unfold mark; repeat' split
                                               all_goals omega
theorem val_start (l : List UInt8) (c : UInt8) (h : l[0]? = some c) : val l = (joinOn (l.drop 1) (c.toNat ^^^ mark l.length) : Nat) := by
  cases l with
  | nil => simp at h
  | cons x xs => simp at h; subst h; rfl
theorem joinOn_drop {l : List UInt8} {k : Nat} {c : UInt8} (h : l[k]? = some c) (r : Nat) : joinOn (l.drop k) r = joinOn (l.drop (k + 1)) (r * 64 + c.toNat % 64) := by
  obtain ⟨hk, e⟩ := List.getElem?_eq_some_iff.1 h
  rw [List.drop_eq_getElem_cons hk, e]; rfl
theorem join_room {k r n : Nat} (h1 : 1 ≤ k) (hk : k < n) (h4 : n ≤ 4) (hr : r < 256 * 64 ^ (k - 1)) : r < 1048576 ∧ ∀ d, d < 64 → r * 64 + d < 256 * 64 ^ (k + 1 - 1) := by
  rcases (by omega : k = 1 ∨ k = 2 ∨ k = 3) with rfl | rfl | rfl <;> (simp at hr; refine ⟨by omega, fun d hd => ?_⟩; simp; omega)

end Go.Proofs.YtaloimbffijalaaDoor.Utf
