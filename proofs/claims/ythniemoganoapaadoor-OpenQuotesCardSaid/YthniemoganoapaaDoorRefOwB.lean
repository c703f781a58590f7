/- The walks of Scan's Lit, Run, Number (layer 17, the reference). -/
import Derived.Test.YthniemoganoapaaDoorRefOwA
set_option maxRecDepth 100000
set_option linter.unusedVariables false
set_option linter.unusedSimpArgs false
namespace Go.Proofs.YthniemoganoapaaDoor
open Go.RowKit
attribute [local go_sem ↓] Go.wp_at_zero Go.wp_at_succ

theorem ScA.drewN {w : World} {b : Nat} {s : List UInt8} {k : Nat} {f : Bool} (h : ScA w b s k f) (n : Nat) : ScA (w.drewN n) b s k f := h.below (below_drewN (Below.refl _ _) n)
theorem sc_drewN {a w : World} {row : Option Nat} (h : a.grownBy w row) (n : Nat) : a.grownBy (w.drewN n) row := sc_trans h (sc_below (below_drewN (Below.refl _ _) n) row)
namespace Ow
end Ow

end Go.Proofs.YthniemoganoapaaDoor
