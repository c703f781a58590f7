/- What the rows' lists give: the tables of package charset. -/
import Derived.Test.YtgdhfmcipaoapaaDoorChA
import Derived.Test.YtgdhfmcipaoapaaDoorGrd
import Derived.Test.YtgdhfmcipaoapaaDoorRows
import Derived.ProofKit
import Derived.LaidMore
import Derived.MakeChecks
set_option maxRecDepth 100000
set_option linter.unusedVariables false
set_option linter.unusedSimpArgs false
namespace Go.Proofs.YtgdhfmcipaoapaaDoor
open Go.RowKit

theorem ChT_met {W : World} {l : List (String × DataW Unit)} (h : laidMet Tryd.prog l W) (h1 : ("polyglot/charset.spans", Rows.laid_polyglot_charset_spans) ∈ l) (h2 : ("polyglot/charset.sets", Rows.laid_polyglot_charset_sets) ∈ l) : ChT W :=
  ⟨Plain.laid_block (k := 6) (name := "polyglot/charset.spans") (d := Rows.laid_polyglot_charset_spans) (g := 0) (t := 68) h h1 (by kernel_rfl) (by kernel_rfl) (by kernel_rfl),
    Plain.laid_block (k := 6) (name := "polyglot/charset.sets") (d := Rows.laid_polyglot_charset_sets) (g := 1) (t := 70) h h2 (by kernel_rfl) (by kernel_rfl) (by kernel_rfl)⟩

end Go.Proofs.YtgdhfmcipaoapaaDoor
