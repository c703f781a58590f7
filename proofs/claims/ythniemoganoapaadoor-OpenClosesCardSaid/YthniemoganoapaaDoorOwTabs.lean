/- What the rows' lists give: the tables of packages openword and utf (layer 17). -/
import Derived.Test.YthniemoganoapaaDoorOpA
import Derived.Test.YthniemoganoapaaDoorGrd
import Derived.Test.YthniemoganoapaaDoorRows
import Derived.ProofKit
import Derived.LaidMore
import Derived.MakeChecks
set_option maxRecDepth 100000
set_option linter.unusedVariables false
set_option linter.unusedSimpArgs false
namespace Go.Proofs.YthniemoganoapaaDoor
open Go.RowKit

theorem OwT_met {W : World} {l : List (String × DataW Unit)} (h : laidMet Tryd.prog l W) (h1 : ("polyglot/openword.classes", Rows.laid_polyglot_openword_classes) ∈ l) (h2 : ("polyglot/openword.starts", Rows.laid_polyglot_openword_starts) ∈ l) (h3 : ("polyglot/utf.shapes", Rows.laid_polyglot_utf_shapes) ∈ l) (h4 : ("polyglot/utf.marks", Rows.laid_polyglot_utf_marks) ∈ l) : OwT W W.heap.size := by
  have e1 : ∃ t fr, W.heap[0]? = some (.cells owCls t fr) := Plain.laid_block (k := 6) (name := "polyglot/openword.classes") (d := Rows.laid_polyglot_openword_classes) (g := 0) (t := 90) h h1 (by kernel_rfl) (by kernel_rfl) (by kernel_rfl)
  have e2 : ∃ t fr, W.heap[1]? = some (.cells #[.string ⟨#[]⟩, .string (str [35, 32, 84, 89, 80, 69, 32]), .string (str [35, 32, 85, 78, 73, 84, 32]), .string (str [35, 32, 72, 69, 76, 80, 32]), .string (str [35, 32, 69, 79, 70])] t fr) := Plain.laid_block (k := 6) (name := "polyglot/openword.starts") (d := Rows.laid_polyglot_openword_starts) (g := 1) (t := 93) h h2 (by kernel_rfl) (by kernel_rfl) (by kernel_rfl)
  have e3 : ShapesIn W := Plain.laid_block (k := 6) (name := "polyglot/utf.shapes") (d := Rows.laid_polyglot_utf_shapes) (g := 2) (t := 115) h h3 (by kernel_rfl) (by kernel_rfl) (by kernel_rfl)
  have e4 : MarksIn W := Plain.laid_block (k := 6) (name := "polyglot/utf.marks") (d := Rows.laid_polyglot_utf_marks) (g := 3) (t := 117) h h4 (by kernel_rfl) (by kernel_rfl) (by kernel_rfl)
  refine ⟨e1, e2, e3, e4, ?_, ?_, ?_, ?_⟩
  · obtain ⟨t, fr, e⟩ := e1; exact (Array.getElem?_eq_some_iff.1 e).1
  · obtain ⟨t, fr, e⟩ := e2; exact (Array.getElem?_eq_some_iff.1 e).1
  · obtain ⟨t, fr, e⟩ := e3; exact (Array.getElem?_eq_some_iff.1 e).1
  · obtain ⟨t, fr, e⟩ := e4; exact (Array.getElem?_eq_some_iff.1 e).1

end Go.Proofs.YthniemoganoapaaDoor
