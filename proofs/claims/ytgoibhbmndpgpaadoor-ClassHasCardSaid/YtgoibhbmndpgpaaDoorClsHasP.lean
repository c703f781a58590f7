/- What the law ClassHas comes to, in plain words (layer 16). -/
import Derived.Test.YtgoibhbmndpgpaaDoorClsC
set_option maxRecDepth 100000
set_option linter.unusedVariables false
set_option linter.unusedSimpArgs false
namespace Go.Proofs.YtgoibhbmndpgpaaDoor
open Dc
namespace Kl

theorem val_value {p : Int} {v : List UInt8} (h : val p v = true) : valueOk v = true := by
  unfold val at h
  split at h
  · exact h
  · simp only [Bool.and_eq_true, decide_eq_true_eq] at h
    unfold valueOk
    rw [decide_eq_true h.1.1.2, decide_eq_true h.2]; rfl
theorem has_pt {p k ro m ti : Int} {ls : List Lb} {td : Bool} (hk : 0 ≤ k ∧ k ≤ 4) (hro : ro = if k = 3 ∨ k = 4 then 4 else 0) (hm : goodD m 0 = true) (hm2 : k = 2 → 0 ≤ m) (h1 : td = true → isT ti = true) (h2 : td = false → ti = 0)
    (hls : ls = [] ∨ ∃ n v, ls = [(n, v)] ∧ Ch.isName p 1 n = true ∧ val p v = true) : ptOk k ⟨ls, ro, false, 0, 0, m, 0, td, ti⟩ = true := by
  have hg : goodL ls = true := by
    rcases hls with rfl | ⟨n, v, rfl, hn, hv⟩
    · exact Lg.goodL_iff.2 ⟨by simp, fun x hx => (by cases hx), by unfold StrictS; simp⟩
    · exact Lg.goodL_iff.2 ⟨by simp, fun x hx => by rw [List.mem_singleton.1 hx]; exact ⟨Lg.nameOk_of hn, val_value hv⟩, by unfold StrictS; simp⟩
  have hv : valOk k ⟨ls, ro, false, 0, 0, m, 0, td, ti⟩ = true := by
    unfold valOk
    simp only
    rw [hm, cmpO_zero hm]
    unfold cntOf
    by_cases k2 : k = 2
    · rw [decide_eq_false (show ¬ m < 0 by have := hm2 k2; omega)]; simp
    · rw [decide_eq_false k2, decide_eq_false (show ¬ ro = 1 by rw [hro]; split <;> omega), decide_eq_false (show ¬ ro = 3 by rw [hro]; split <;> omega)]; rfl
  have ht : timOk ⟨ls, ro, false, 0, 0, m, 0, td, ti⟩ = true := by
    unfold timOk
    cases td with
    | true => simp only [if_pos]; exact h1 rfl
    | false => simp only; rw [if_neg (by decide)]; exact decide_eq_true (h2 rfl)
  refine Lg.ptOk_iff.2 ⟨?_, hg, by unfold infOk; rfl, ?_, hv, ht, ?_⟩
  · rw [hro]
    rcases (show k = 0 ∨ k = 1 ∨ k = 2 ∨ k = 3 ∨ k = 4 by omega) with rfl | rfl | rfl | rfl | rfl <;> rfl
  · unfold bndOk
    simp only
    rw [if_neg (fun e => by have := e.1; rw [hro] at this; split at this <;> omega), if_neg (fun e => by rw [hro] at e; split at e <;> omega)]
    decide
  · unfold hasB
    simp only
    rw [if_neg (fun e => by rw [hro] at e; split at e <;> omega), if_neg (fun e => by rw [hro] at e; split at e <;> omega)]
theorem has {p k ro m ti : Int} {ls : List Lb} {td : Bool} (hp : 1 ≤ p ∧ p ≤ 4) (hk : 0 ≤ k ∧ k ≤ 4) (hro : ro = if k = 3 ∨ k = 4 then 4 else 0) (hm : goodD m 0 = true) (hm2 : k = 2 ∨ p = 4 → 0 ≤ m) (htd : td = (p != 4)) (h1 : td = true → isT ti = true ∧ ti.tmod 1000 = 0) (h2 : td = false → ti = 0)
    (hls : ls = [] ∨ ∃ n v, ls = [(n, v)] ∧ Ch.isName p 1 n = true ∧ val p v = true) : (why p [116] (oB k ⟨ls, ro, false, 0, 0, m, 0, td, ti⟩)).2 = (kinds p).contains k := by
  have hpt := has_pt hk hro hm (fun e => hm2 (Or.inl e)) (fun e => (h1 e).1) h2 hls
  have hf : famOk (oHd k) [⟨ls, ro, false, 0, 0, m, 0, td, ti⟩] = true := famOk_iff.2 ⟨by show nameOk [97] = true; decide, by unfold kindOk oHd; simp only; exact decide_eq_true (by omega), by show valueOk [] = true; decide, by show valueOk [] = true; decide, fun q hq => by rw [List.mem_singleton.1 hq]; exact hpt, by unfold StrictP; simp⟩
  have hc : chk [116] (oB k ⟨ls, ro, false, 0, 0, m, 0, td, ti⟩) = 0 := chk_is (batOk_iff.2 ⟨by decide, fun x hx => by unfold oB at hx; rw [List.mem_singleton.1 hx]; exact hf, by unfold oB StrictT; simp⟩) (by unfold oB; simp) (by unfold oB nPts; simp)
  rw [why_yes hc hp]
  have hlb : labs p ls = true := by
    rcases hls with rfl | ⟨n, v, rfl, hn, hv⟩
    · rfl
    · unfold labs lab; simp only [List.all_cons, List.all_nil, hn, hv]; rfl
  have hq : pt p ⟨ls, ro, false, 0, 0, m, 0, td, ti⟩ = true := by
    unfold pt
    simp only
    rw [hlb, htd]
    rcases (show p = 1 ∨ p = 2 ∨ p = 3 ∨ p = 4 by omega) with rfl | rfl | rfl | rfl
    · rfl
    · rfl
    · have := (h1 (by rw [htd]; rfl)).2
      rw [decide_eq_true this]; rfl
    · rw [decide_eq_false (show ¬ m < 0 by have := hm2 (Or.inr rfl); omega)]; rfl
  have hfam : fam p (oHd k, [⟨ls, ro, false, 0, 0, m, 0, td, ti⟩]) = (kinds p).contains k := by
    unfold fam
    simp only [List.all_cons, List.all_nil, hq, Bool.and_true]
    unfold hd oHd
    simp only
    rcases (show p = 1 ∨ p = 2 ∨ p = 3 ∨ p = 4 by omega) with rfl | rfl | rfl | rfl
    · have hu : unit [97] [] = true := by decide
      rw [show Ch.isName 1 0 [97] = true by decide]; simp [hu]
    · rw [show Ch.isName 2 0 [97] = true by decide]; simp
    · rw [show Ch.isName 3 0 [97] = true by decide]; simp
    · rw [show Ch.isName 4 0 [97] = true by decide]; simp
  unfold oB whyF
  rw [hfam]
  cases (kinds p).contains k <;> rfl
end Kl

end Go.Proofs.YtgoibhbmndpgpaaDoor
