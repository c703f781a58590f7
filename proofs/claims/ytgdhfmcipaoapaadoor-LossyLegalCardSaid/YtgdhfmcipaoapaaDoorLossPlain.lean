/- Names at a loss, in plain words: what a name becomes (loss). -/
import Derived.Test.YtgdhfmcipaoapaaDoorEscPlain
set_option maxRecDepth 100000
set_option linter.unusedVariables false
set_option linter.unusedSimpArgs false
namespace Go.Proofs.YtgdhfmcipaoapaaDoor
namespace Ch

/-- what is left of a name becomes, behind a byte -/
def lossL (p w : Int) : Option UInt8 → List UInt8 → List UInt8
  | _, [] => []
  | prev, c :: r => (if legC p w c prev.isSome (midP prev r) then c else 95) :: lossL p w (some c) r
def loss (p w : Int) (l : List UInt8) : List UInt8 := lossL p w none l
theorem lossL_len (p w : Int) : ∀ (l : List UInt8) (prev : Option UInt8), (lossL p w prev l).length = l.length
  | [], _ => rfl
  | c :: r, prev => by unfold lossL; rw [List.length_cons, List.length_cons, lossL_len p w r (some c)]
theorem loss_len (p w : Int) (l : List UInt8) : (loss p w l).length = l.length := lossL_len p w l none
theorem lossL_stay (p w : Int) : ∀ (l : List UInt8) (prev : Option UInt8), legP p w prev l = true → lossL p w prev l = l
  | [], _, _ => rfl
  | c :: r, prev, h => by
    unfold legP at h
    rw [Bool.and_eq_true] at h
    unfold lossL
    rw [if_pos h.1, lossL_stay p w r (some c) h.2]
theorem lossL_legal {p w : Int} (h : 1 ≤ p ∧ p ≤ 4 ∧ (w = 0 ∨ w = 1)) : ∀ (l : List UInt8) (pl pr : Option UInt8), pl.isSome = pr.isSome → (∀ d, pl = some d → ¬ d.toNat = 46 → ∀ e, pr = some e → ¬ e.toNat = 46) →
    legP p w pr (lossL p w pl l) = true
  | [], _, _, _, _ => rfl
  | c :: r, pl, pr, h1, h2 => by
    obtain ⟨s1, _, _⟩ := signs h
    unfold lossL legP
    rw [Bool.and_eq_true]
    split
    · rename_i hk
      refine ⟨legC_mono (fun e => by rw [← h1]; exact e) ?_ hk, lossL_legal h r (some c) (some c) rfl fun d hd hn e he => by cases hd; cases he; exact hn⟩
      intro hm
      cases pl with
      | none => cases hm
      | some d =>
        unfold midP at hm
        simp only [Bool.and_eq_true] at hm
        obtain ⟨e, rfl⟩ : ∃ e, pr = some e := Option.isSome_iff_exists.1 (by rw [← h1]; rfl)
        have hd : ¬ d.toNat = 46 := by simpa using hm.2
        have he := h2 d rfl hd e rfl
        unfold midP
        simp only [Bool.and_eq_true]
        refine ⟨?_, by simpa using he⟩
        cases r with
        | nil => simp at hm
        | cons c2 r2 => simp [lossL]
    · exact ⟨s1 _ _, lossL_legal h r (some c) (some 95) rfl fun d hd hn e he => by cases he; decide⟩
/-- ████ what a name becomes is legal -/
theorem loss_legal {p w : Int} (h : 1 ≤ p ∧ p ≤ 4 ∧ (w = 0 ∨ w = 1)) (l : List UInt8) : bad p w (loss p w l) < 0 := by
  rw [bad_legP]
  exact lossL_legal h l none none rfl fun d hd => by cases hd
theorem loss_stay {p w : Int} {l : List UInt8} (h : bad p w l < 0) : loss p w l = l := lossL_stay p w l none ((bad_legP p w l).1 h)
theorem loss_again {p w : Int} (h : 1 ≤ p ∧ p ≤ 4 ∧ (w = 0 ∨ w = 1)) (l : List UInt8) : loss p w (loss p w l) = loss p w l := loss_stay (loss_legal h l)

end Ch
end Go.Proofs.YtgdhfmcipaoapaaDoor
