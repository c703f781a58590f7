/- Rows of points that no store into an older block turns. -/
import Derived.Test.YtjeefgamkoeiaaaGreatDoorFamB
set_option maxRecDepth 100000
set_option linter.unusedVariables false
set_option linter.unusedSimpArgs false
namespace Go.Proofs.YtjeefgamkoeiaaaGreatDoor
open Go.RowKit Go.Sort Dc

/-- a row of points that no store into a block ahead of base turns -/
def PtKeep (w : World) (base : Nat) (v : Value) (L : List Ps) : Prop := ∀ X : World, (∀ b, b < w.heap.size → base ≤ b → X.heap[b]? = w.heap[b]?) → w.heap.size ≤ X.heap.size → PtRow X v L
theorem PtKeep.row {w : World} {base : Nat} {v : Value} {L : List Ps} (h : PtKeep w base v L) : PtRow w v L := h w (fun _ _ _ => rfl) (Nat.le_refl _)
theorem PtKeep.below {w w' : World} {base : Nat} {v : Value} {L : List Ps} (h : PtKeep w base v L) (hb : Below w.heap.size w w') : PtKeep w' base v L := fun X h1 h2 =>
  h X (fun b hlt hg => (h1 b (Nat.lt_of_lt_of_le hlt hb.size) hg).trans (hb.block b hlt)) (Nat.le_trans hb.size h2)
theorem PtKeep.setOld {w : World} {base b i : Nat} {u v : Value} {L : List Ps} (h : PtKeep w base v L) (hb : b < base) : PtKeep (w.setCell ⟨b, i, none⟩ u) base v L := fun X h1 h2 =>
  h X (fun c hlt hg => (h1 c (by simpa [World.setCell] using hlt) hg).trans (Below.heap_setCell _ _ _ _ (by show c ≠ b; omega))) (by simpa [World.setCell] using h2)
theorem PtKeep.mono {w : World} {base base' : Nat} {v : Value} {L : List Ps} (h : PtKeep w base v L) (hb : base' ≤ base) : PtKeep w base' v L := fun X h1 h2 => h X (fun b hlt hg => h1 b hlt (by omega)) h2
theorem PtFar.keep {w : World} {g base : Nat} {v : Value} {L : List Ps} (h : PtFar w g v L) (hb : base ≤ g) : PtKeep w base v L := fun X h1 h2 => (h.above (fun b hlt hg => h1 b hlt (by omega)) h2).pts

end Go.Proofs.YtjeefgamkoeiaaaGreatDoor
