/- Names at a loss, byte by byte (lossB): the same as loss. -/
import Derived.Test.YtgdhfmcipaoapaaDoorLossPlain
set_option maxRecDepth 100000
set_option linter.unusedVariables false
set_option linter.unusedSimpArgs false
namespace Go.Proofs.YtgdhfmcipaoapaaDoor
namespace Ch

/-- what byte i of a name becomes -/
def lossB (p w : Int) (l : List UInt8) (i : Nat) : UInt8 := if leg p w l i then l.getD i 0 else 95
theorem lossL_at (p w : Int) : ∀ (r a : List UInt8) (j : Nat), j < r.length → (lossL p w a.getLast? r).getD j 0 = lossB p w (a ++ r) (a.length + j)
  | [], _, _, h => absurd h (by simp)
  | c :: r, a, 0, _ => by
    unfold lossL lossB
    rw [Nat.add_zero, leg_split]
    simp [List.getD_eq_getElem?_getD]
  | c :: r, a, j + 1, h => by
    unfold lossL
    have ih := lossL_at p w r (a ++ [c]) j (by simpa using h)
    simp only [List.getLast?_append, List.getLast?_singleton, Option.some_or, List.append_assoc, List.singleton_append, List.length_append, List.length_cons, List.length_nil] at ih
    rw [List.getD_cons_succ, ih]
    congr 1
    omega
theorem loss_at (p w : Int) (l : List UInt8) (j : Nat) (h : j < l.length) : (loss p w l).getD j 0 = lossB p w l j := by
  have := lossL_at p w l [] j h
  simpa [loss] using this
theorem loss_put (p w : Int) (l : List UInt8) (k : Nat) (h : k < l.length) : (loss p w l).take k ++ [lossB p w l k] = (loss p w l).take (k + 1) := by
  have hl : k < (loss p w l).length := by rw [loss_len]; exact h
  have e := loss_at p w l k h
  rw [List.getD_eq_getElem?_getD, List.getElem?_eq_getElem hl] at e
  rw [List.take_succ_eq_append_getElem hl, ← e]; rfl

end Ch
end Go.Proofs.YtgdhfmcipaoapaaDoor
