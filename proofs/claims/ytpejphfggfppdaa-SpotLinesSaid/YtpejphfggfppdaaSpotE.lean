/- Equality of spots and of faults, as one step. -/
import Derived.Test.YtpejphfggfppdaaSpotB
import Derived.Laws.StructEq
namespace Go.Proofs.Ytpejphfggfppdaa
open Go.RowKit

theorem equal_spot (a b c a' b' c' : Int) (w : World) : (Op.equalIn 10000 26 (.agg #[.int .i64 a, .int .i64 b, .int .i64 c]) (.agg #[.int .i64 a', .int .i64 b', .int .i64 c'])).run Try.prog w = .ok (decide (a = a' ∧ b = b' ∧ c = c')) w := by
  by_cases h1 : a = a'
  · subst h1
    by_cases h2 : b = b'
    · subst h2
      by_cases h3 : c = c'
      · subst h3; go_simp
      · go_simp
    · go_simp
  · go_simp
theorem eql_spot (a b c a' b' c' : Int) (w : World) : (binOp .eql 26 (.agg #[.int .i64 a, .int .i64 b, .int .i64 c]) (.agg #[.int .i64 a', .int .i64 b', .int .i64 c'])).run Try.prog w = .ok (.bool (decide (a = a' ∧ b = b' ∧ c = c'))) w := by
  rw [run_eql_struct, equal_spot]; rfl
theorem neq_spot (a b c a' b' c' : Int) (w : World) : (binOp .neq 26 (.agg #[.int .i64 a, .int .i64 b, .int .i64 c]) (.agg #[.int .i64 a', .int .i64 b', .int .i64 c'])).run Try.prog w = .ok (.bool (!decide (a = a' ∧ b = b' ∧ c = c'))) w := by
  rw [run_neq_struct, equal_spot]; rfl
theorem equal_fault (f g : Ft) (w : World) : (Op.equalIn 10000 30 f.v g.v).run Try.prog w = .ok (decide (f = g)) w := by
  obtain ⟨c, o, l, k⟩ := f
  obtain ⟨c', o', l', k'⟩ := g
  have e : decide (Ft.mk c o l k = Ft.mk c' o' l' k') = decide (c = c' ∧ o = o' ∧ l = l' ∧ k = k') := by simp
  rw [e]
  clear e
  by_cases h1 : c = c'
  · subst h1
    by_cases h2 : o = o'
    · subst h2
      by_cases h3 : l = l'
      · subst h3
        by_cases h4 : k = k'
        · subst h4; go_simp
        · go_simp
      · go_simp
    · go_simp
  · go_simp
theorem eql_fault (f g : Ft) (w : World) : (binOp .eql 30 f.v g.v).run Try.prog w = .ok (.bool (decide (f = g))) w := by
  rw [run_eql_struct, equal_fault]; rfl
theorem neq_fault (f g : Ft) (w : World) : (binOp .neq 30 f.v g.v).run Try.prog w = .ok (.bool (!decide (f = g))) w := by
  rw [run_neq_struct, equal_fault]; rfl
end Go.Proofs.Ytpejphfggfppdaa
