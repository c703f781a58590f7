/- The walks of slices.EqualFunc at points, of package family's Same. -/
import Derived.Test.YtjeefgamkoeiaaaGreatDoorFamRow
import Derived.Test.YtjeefgamkoeiaaaGreatDoorPointW
import Derived.Laws.StructEq
set_option maxRecDepth 100000
set_option linter.unusedVariables false
set_option linter.unusedSimpArgs false
namespace Go.Proofs.YtjeefgamkoeiaaaGreatDoor
open Go.RowKit Dc
attribute [local go_sem ↓] Go.wp_at_zero Go.wp_at_succ

theorem equal_head (h g : Hd) (w : World) : (Op.equalIn 10000 38 (hdv h) (hdv g)).run Tryz.prog w = .ok (decide (h = g)) w := by
  obtain ⟨n, k, u, e⟩ := h
  obtain ⟨n', k', u', e'⟩ := g
  have he : decide (Hd.mk n k u e = Hd.mk n' k' u' e') = decide (n = n' ∧ k = k' ∧ u = u' ∧ e = e') := by simp
  rw [he]
  clear he
  by_cases h1 : n = n'
  · subst h1
    by_cases h2 : k = k'
    · subst h2
      by_cases h3 : u = u'
      · subst h3
        by_cases h4 : e = e'
        · subst h4; go_simp
        · have d4 : (e == e') = false := by simpa using h4
          go_simp
      · have d3 : (u == u') = false := by simpa using h3
        go_simp
    · have d2 : (k == k') = false := by simpa using h2
      go_simp
  · have d1 : (n == n') = false := by simpa using h1
    go_simp
theorem neq_head (h g : Hd) (w : World) : (binOp .neq 38 (hdv h) (hdv g)).run Tryz.prog w = .ok (.bool (!decide (h = g))) w := by
  rw [run_neq_struct, equal_head]; rfl

/-- the same family -/
def sameF (h g : Hd) (l m : List Pt) : Bool := decide (h = g) && sameRow l m
end Go.Proofs.YtjeefgamkoeiaaaGreatDoor
