/- The texts RefLegB, one behind the other. -/
import Derived.Test.YtbapneipjmpcbaaGreatDoorRsrW
import Derived.Test.YtbapneipjmpcbaaGreatDoorEscW
import Derived.Test.YtbapneipjmpcbaaGreatDoorChP
import Derived.Test.YtbapneipjmpcbaaGreatDoorGrd
import Derived.Test.YtbapneipjmpcbaaGreatDoorChW
import Derived.Test.YtbapneipjmpcbaaGreatDoorLegP
import Derived.Test.YtbapneipjmpcbaaGreatDoorLegZ
import Derived.Test.YtbapneipjmpcbaaGreatDoorBatX
import Derived.Laws.IdiomStrings
import Derived.BigQuiet

/- The reference's Named, add (layer 15), Sort (layer 10). -/
set_option maxRecDepth 100000
set_option linter.unusedVariables false
set_option linter.unusedSimpArgs false
namespace Go.Proofs.YtbapneipjmpcbaaGreatDoor
open Go.RowKit Go.Sort Dc
attribute [local go_sem ↓] Go.wp_at_zero Go.wp_at_succ

/-- a row of families that hangs on no block of E -/
def FmEO (w : World) (E : Nat → Prop) (v : Value) (M : List Fs) : Prop := ∀ X : World, (∀ b, b < w.heap.size → ¬ E b → X.heap[b]? = w.heap[b]?) → w.heap.size ≤ X.heap.size → FmRow X v M
theorem FmEO.here {w : World} {E : Nat → Prop} {v : Value} {M : List Fs} (h : FmEO w E v M) : FmRow w v M := h w (fun _ _ _ => rfl) (Nat.le_refl _)
theorem FmEO.below {w w' : World} {E : Nat → Prop} {v : Value} {M : List Fs} (h : FmEO w E v M) (hb : Below w.heap.size w w') : FmEO w' E v M := fun X h1 h2 =>
  h X (fun b hlt he => (h1 b (Nat.lt_of_lt_of_le hlt hb.size) he).trans (hb.block b hlt)) (Nat.le_trans hb.size h2)
theorem FmEO.off {w : World} {E : Nat → Prop} {v : Value} {M : List Fs} (h : FmEO w E v M) : ∀ x ∈ M, FsOff w E x := fun x hx => ⟨(h.here.2 x hx).2, fun X h1 h2 => ((h X h1 h2).2 x hx).1⟩

end Go.Proofs.YtbapneipjmpcbaaGreatDoor
