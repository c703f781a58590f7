/- A decimal that came in as an argument. -/
import Derived.Test.YtmbpldnclnahmaaDoorFrame
import Derived.Test.YtmbpldnclnahmaaDoorDecA
import Derived.Lib.SmallJoins
set_option maxRecDepth 100000
set_option linter.unusedVariables false
set_option linter.unusedSimpArgs false
namespace Go.Proofs.YtmbpldnclnahmaaDoor
open Go.ChangeShapes Go.WideShapes Go.ChangeAt Go.RowKit Dc

theorem dec_of {H : Type} {enc : TypeId × Value → H} {W : World} {base : Nat} {sp : Nat → Bool} {held : Bool} {v : Value} {d : DataW H} {p : List MemPlace}
    (hv : Value.okWide Tryd.prog W .any 0 23 v) (h : DataW.Trod enc Tryd.prog W base sp held 23 v d p) :
    ∃ a b, v = dv2 a b ∧ (Lit.int .i64 a).wf = true ∧ (Lit.int .i64 b).wf = true := by
  obtain ⟨v0, v1, y0, y1, n, rfl, _, _, h0, h1⟩ := Go.Joins.open_agg2 Tryd.underlying23 (by kernel_rfl) (by kernel_rfl) hv h
  obtain ⟨a, e0, _, wa⟩ := DataW.trod_int Tryd.underlying2 h0
  obtain ⟨b, e1, _, wb⟩ := DataW.trod_int Tryd.underlying3 h1
  have f0 : v0 = .int .i64 a := by simpa using e0
  have f1 : v1 = .int .i64 b := by simpa using e1
  exact ⟨a, b, by rw [f0, f1], wa, wb⟩

end Go.Proofs.YtmbpldnclnahmaaDoor
