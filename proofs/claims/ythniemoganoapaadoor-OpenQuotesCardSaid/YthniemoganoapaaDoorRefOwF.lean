/- The walk of Scan's Str (layer 17, the reference). -/
import Derived.Test.YthniemoganoapaaDoorRefOwE
set_option maxRecDepth 100000
set_option linter.unusedVariables false
set_option linter.unusedSimpArgs false
namespace Go.Proofs.YthniemoganoapaaDoor
open Go.RowKit
attribute [local go_sem ↓] Go.wp_at_zero Go.wp_at_succ

theorem ScA.belowB {w w' : World} {b B : Nat} {s : List UInt8} {k : Nat} {f : Bool} (h : ScA w b s k f) (hb : Below B w w') (hlt : b < B) : ScA w' b s k f :=
  ⟨(hb.cell (p := ⟨b, 0, none⟩) hlt).trans h.c0, (hb.cell (p := ⟨b, 1, none⟩) hlt).trans h.c1, (hb.cell (p := ⟨b, 2, none⟩) hlt).trans h.c2, fun o => (hb.frozen (p := ⟨b, o, none⟩) hlt).trans (h.fr o), Nat.lt_of_lt_of_le h.lt hb.size⟩

end Go.Proofs.YthniemoganoapaaDoor
