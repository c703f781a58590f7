/- What the rows' lists give: the tables of package utf; a world for the witness. -/
import Derived.Test.YtobaclonacpoeaaDoorUtfK
import Derived.Test.YtobaclonacpoeaaDoorCells
import Derived.ProofKit
import Derived.LaidMore
import Derived.MakeChecks
namespace Go.Proofs.YtobaclonacpoeaaDoor
open Go.RowKit

def laidAll : List (String × DataW Unit) := [("polyglot/utf.shapes", Rows.laid_polyglot_utf_shapes), ("polyglot/utf.ends", Rows.laid_polyglot_utf_ends), ("polyglot/utf.marks", Rows.laid_polyglot_utf_marks)]
theorem Tabs_laid {W : World} (h : laidMetH Tryd.prog laidAll W) : Tabs W := by
  have hL : laidMet Tryd.prog laidAll W := by
    rw [MakeChecks.laidMetH_plain _ _ _ (by kernel_rfl)] at h
    exact h
  have h1 := Plain.laid_block (k := 6) (name := "polyglot/utf.shapes") (d := Rows.laid_polyglot_utf_shapes) (g := 2) (t := 51) hL (by simp [laidAll]) (by kernel_rfl) (by kernel_rfl) (by kernel_rfl)
  have h2 := Plain.laid_block (k := 6) (name := "polyglot/utf.ends") (d := Rows.laid_polyglot_utf_ends) (g := 0) (t := 43) hL (by simp [laidAll]) (by kernel_rfl) (by kernel_rfl) (by kernel_rfl)
  have h3 := Plain.laid_block (k := 6) (name := "polyglot/utf.marks") (d := Rows.laid_polyglot_utf_marks) (g := 1) (t := 44) hL (by simp [laidAll]) (by kernel_rfl) (by kernel_rfl) (by kernel_rfl)
  exact ⟨h1, h3, h2⟩

/-- a variable's block, filled -/
def fill (cs : Array Value) : Obj → Obj
  | .cells _ t frozen => .cells cs t frozen
  | o => o
noncomputable def laidWorld (os : Os) : World :=
  { World.holding Tryd.prog os ⟨#[], #[], []⟩ with heap := ((((World.holding Tryd.prog os ⟨#[], #[], []⟩).heap.modify 2 (fill (Plain.flat (H := Unit) Rows.laid_polyglot_utf_shapes).toArray)).modify 0 (fill (Plain.flat (H := Unit) Rows.laid_polyglot_utf_ends).toArray)).modify 1 (fill (Plain.flat (H := Unit) Rows.laid_polyglot_utf_marks).toArray)) }

end Go.Proofs.YtobaclonacpoeaaDoor
