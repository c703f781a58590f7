/- What the rows' lists give at the laws of families: utf's shapes, the units' places, the words of the kinds. -/
import Derived.Test.YtjkaggkamcfahaaDoorPtTabs
import Derived.Test.YtjkaggkamcfahaaDoorFamG
set_option maxRecDepth 100000
set_option linter.unusedVariables false
set_option linter.unusedSimpArgs false
namespace Go.Proofs.YtjkaggkamcfahaaDoor
open Go.RowKit

/-- the three tables lie in the world -/
structure FamT (w : World) : Prop where
  sp : ShPl w
  wd : Wd w
theorem FamT.below {w w' : World} (h : FamT w) (hb : Below w.heap.size w w') : FamT w' := ⟨shpl_below h.sp hb, h.wd.below hb⟩
theorem FamT_met {W : World} {l : List (String × DataW Unit)} (h : laidMet Tryd.prog l W) (h1 : ("polyglot/utf.shapes", Rows.laid_polyglot_utf_shapes) ∈ l) (h2 : ("polyglot/stamp.places", Rows.laid_polyglot_stamp_places) ∈ l) (h3 : ("polyglot/family.words", Rows.laid_polyglot_family_words) ∈ l) : FamT W := by
  refine ⟨ShPl_met h h1 h2, ?_⟩
  obtain ⟨u, fr, hb⟩ := Plain.laid_block (k := 4) (name := "polyglot/family.words") (d := Rows.laid_polyglot_family_words) (g := 0) (t := 67) h h3 (by kernel_rfl) (by kernel_rfl) (by kernel_rfl)
  exact ⟨by rw [Lib.cell_of_heap hb]; rfl, by rw [Lib.cell_of_heap hb]; rfl, by rw [Lib.cell_of_heap hb]; rfl, by rw [Lib.cell_of_heap hb]; rfl, by rw [Lib.cell_of_heap hb]; rfl, (Array.getElem?_eq_some_iff.1 hb).1⟩

end Go.Proofs.YtjkaggkamcfahaaDoor
