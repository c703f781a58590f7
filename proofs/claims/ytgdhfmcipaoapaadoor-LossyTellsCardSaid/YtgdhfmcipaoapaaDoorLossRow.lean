/- A row of texts as lists of bytes; which of them were met. -/
import Derived.Test.YtgdhfmcipaoapaaDoorLossK
set_option maxRecDepth 100000
set_option linter.unusedVariables false
set_option linter.unusedSimpArgs false
namespace Go.Proofs.YtgdhfmcipaoapaaDoor
open Go.RowKit

theorem row_str {w : World} {v : Value} {n : Nat} {es : Nat → ByteArray} (h : StrRow w v n es) : StrRow w v n (fun i => str (es i).data.toList) := by
  have e : (fun i => str (es i).data.toList) = es := funext fun i => (str_self (es i)).symm
  rw [e]; exact h
/-- the names of a row -/
def nms (n : Nat) (ls : Nat → Co.Bs) : List Co.Bs := (List.range n).map ls
theorem nms_txs (n : Nat) (ls : Nat → Co.Bs) : txs n (fun i => str (ls i)) = nms n ls := by
  unfold txs nms
  apply List.map_congr_left
  intro i _
  rfl
theorem nms_mem {n : Nat} {ls : Nat → Co.Bs} {i : Nat} (h : i < n) : ls i ∈ nms n ls := List.mem_map.2 ⟨i, List.mem_range.2 h, rfl⟩
/-- is x one of the first k names -/
def memb (ls : Nat → Co.Bs) (k : Nat) (x : Co.Bs) : Bool := (List.range k).any (fun j => ls j == x)
theorem memb_succ (ls : Nat → Co.Bs) (k : Nat) (x : Co.Bs) : memb ls (k + 1) x = (memb ls k x || (ls k == x)) := by
  unfold memb
  rw [List.range_succ, List.any_append]
  simp
theorem memb_all {ls : Nat → Co.Bs} {n : Nat} {x : Co.Bs} (h : x ∈ nms n ls) : memb ls n x = true := by
  obtain ⟨i, hi, rfl⟩ := List.mem_map.1 h
  unfold memb
  rw [List.any_eq_true]
  exact ⟨i, hi, by simp⟩
theorem clash_facts {f : Co.Bs → Co.Bs} {n : Nat} {ls : Nat → Co.Bs} {o : Option (Co.Bs × Co.Bs)} (h : Co.ClashOf f (fun c => c.1 ∈ nms n ls ∧ c.2 ∈ nms n ls) o) :
    (o.isSome = false → pA o = [] ∧ pB o = [] ∧ ∀ i k, i < n → k < n → ls i < ls k → ¬ f (ls i) = f (ls k)) ∧
    (o.isSome = true → pA o ∈ nms n ls ∧ pB o ∈ nms n ls ∧ pA o < pB o ∧ f (pA o) = f (pB o) ∧ ∀ i k, i < n → k < n → ls i < ls k → f (ls i) = f (ls k) → ¬ ls i < pA o ∧ (ls i = pA o → ¬ ls k < pB o)) := by
  cases o with
  | none => exact ⟨fun _ => ⟨rfl, rfl, fun i k hi hk hlt he => h (ls i, ls k) ⟨nms_mem hi, nms_mem hk⟩ ⟨hlt, he⟩⟩, fun e => by cases e⟩
  | some d =>
    refine ⟨fun e => by (cases e), fun _ => ⟨h.1.1, h.1.2, h.2.1.1, h.2.1.2, fun i k hi hk hlt he => ?_⟩⟩
    have hn := h.2.2 (ls i, ls k) ⟨nms_mem hi, nms_mem hk⟩ ⟨hlt, he⟩
    exact ⟨fun q => hn (Or.inl q), fun e q => hn (Or.inr ⟨e, q⟩)⟩
theorem bl_lt (a b : Co.Bs) : Op.bytesLess a b = decide (a < b) := bytesLess_eq a b

end Go.Proofs.YtgdhfmcipaoapaaDoor
