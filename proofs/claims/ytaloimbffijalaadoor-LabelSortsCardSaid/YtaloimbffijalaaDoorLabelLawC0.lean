/- Plain facts for the law LabelSorts: whether a name is there twice; rows turned round, with one more. -/
import Derived.Test.YtaloimbffijalaaDoorLabelK2
import Derived.Test.YtaloimbffijalaaDoorLabelCut
set_option maxRecDepth 100000
set_option linter.unusedVariables false
set_option linter.unusedSimpArgs false
namespace Go.Proofs.YtaloimbffijalaaDoor
open Go.RowKit Go.Sort

def dupTo (l : List Lb) (i : Nat) : Nat → Bool
  | 0 => false
  | m + 1 => dupTo l i m || decide ((lbAt l i).1 = (lbAt l m).1)
def tw (l : List Lb) : Nat → Bool
  | 0 => false
  | i + 1 => tw l i || dupTo l i i
theorem dupTo_iff (l : List Lb) (i : Nat) : ∀ m, dupTo l i m = true ↔ ∃ k, k < m ∧ (lbAt l i).1 = (lbAt l k).1
  | 0 => by simp [dupTo]
  | m + 1 => by
    rw [dupTo, Bool.or_eq_true, dupTo_iff l i m, decide_eq_true_eq]
    constructor
    · rintro (⟨k, h, e⟩ | e)
      · exact ⟨k, by omega, e⟩
      · exact ⟨m, by omega, e⟩
    · rintro ⟨k, h, e⟩
      by_cases c : k = m
      · subst c; exact Or.inr e
      · exact Or.inl ⟨k, by omega, e⟩
theorem tw_iff (l : List Lb) : ∀ n, tw l n = true ↔ ∃ i, i < n ∧ ∃ k, k < i ∧ (lbAt l i).1 = (lbAt l k).1
  | 0 => by simp [tw]
  | n + 1 => by
    rw [tw, Bool.or_eq_true, tw_iff l n, dupTo_iff]
    constructor
    · rintro (⟨i, h, e⟩ | e)
      · exact ⟨i, by omega, e⟩
      · exact ⟨n, by omega, e⟩
    · rintro ⟨i, h, e⟩
      by_cases c : i = n
      · subst c; exact Or.inr e
      · exact Or.inl ⟨i, by omega, e⟩
theorem nd_iff (l : List Lb) : Nd l ↔ ∀ i k, k < i → i < l.length → (lbAt l i).1 ≠ (lbAt l k).1 := by
  unfold Nd
  rw [List.nodup_iff_pairwise_ne, List.pairwise_map, List.pairwise_iff_getElem]
  constructor
  · intro h i k hk hi e
    rw [lbAt_of hi, lbAt_of (by omega)] at e
    exact h k i (by omega) hi hk e.symm
  · intro h i j hi hj hij e
    refine h j i hij hj ?_
    rw [lbAt_of hi, lbAt_of hj]; exact e.symm
theorem tw_yes {l : List Lb} (h : ¬ Nd l) : tw l l.length = true := by
  rw [tw_iff]
  apply Classical.byContradiction
  intro c
  exact h ((nd_iff l).2 fun i k hk hi e => c ⟨i, hi, k, hk, e⟩)
theorem tw_no {l : List Lb} (h : Nd l) : tw l l.length = false := by
  cases c : tw l l.length
  · rfl
  · obtain ⟨i, hi, k, hk, e⟩ := (tw_iff l _).1 c
    exact absurd e ((nd_iff l).1 h i k hk hi)
theorem srt_turn (l : List Lb) (k : Nat) : srt (l.drop k ++ l.take k) = srt l :=
  srt_perm (by have h := List.perm_append_comm (l₁ := l.drop k) (l₂ := l.take k); rwa [List.take_append_drop] at h)
theorem srt_more (l : List Lb) (k : Nat) (v : List UInt8) (hk : k < l.length) : srt (l ++ [((lbAt l k).1, v)]) = none := by
  refine srt_no fun h => ?_
  have := (nd_iff _).1 h l.length k hk (by simp)
  have e1 : lbAt (l ++ [((lbAt l k).1, v)]) l.length = ((lbAt l k).1, v) := by
    unfold lbAt
    rw [List.getD_eq_getElem?_getD, List.getElem?_append_right (Nat.le_refl _)]; simp
  have e2 : lbAt (l ++ [((lbAt l k).1, v)]) k = lbAt l k := by
    rw [lbAt_of (by simp; omega), lbAt_of hk, List.getElem_append_left hk]
  rw [e1, e2] at this
  exact this rfl
/-- a label is not other than itself -/
theorem neq_self (X1 X2 : List UInt8) (W : World) : (binOp .neq 38 (lv (X1, X2)) (lv (X1, X2))).run Tryd.prog W = .ok (.bool false) W := by
  go_simp

end Go.Proofs.YtaloimbffijalaaDoor
