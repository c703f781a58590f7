/- The texts ByRow, one behind the other. -/
import Derived.Test.YthniemoganoapaaDoorGrd
import Derived.Laws.IdiomStrings
import Derived.Laws.BytesArg
import Derived.Laws.OwnMore
import Derived.Lib.UnsafeStr

/- Rows of bytes that a call makes anew: appended byte by byte, or made of a text; read back as a text. -/
set_option maxRecDepth 100000
set_option linter.unusedVariables false
set_option linter.unusedSimpArgs false
namespace Go.Proofs.YthniemoganoapaaDoor
open Go.RowKit

theorem set_heap (w : World) (b k : Nat) (cs : Array Value) (t : TypeId) (fr : Nat × Nat) (v : Value) (h : w.heap[b]? = some (.cells cs t fr)) : (w.setCell ⟨b, k, none⟩ v).heap[b]? = some (.cells (cs.setIfInBounds k v) t fr) := by
  show (w.heap.modify b _)[b]? = _
  rw [Array.getElem?_modify, if_pos rfl, h]; rfl
/-- bytes lie in block b, from its begin on, and may be stored to -/
structure BtAt (w : World) (b n : Nat) (es : Nat → UInt8) : Prop where
  heap : ∃ cs lo hi, w.heap[b]? = some (.cells cs 5 (lo, hi)) ∧ n ≤ cs.size ∧ n ≤ lo ∧ ∀ i, i < n → cs[i]? = some (.int .u8 ((es i).toNat : Int))
theorem BtAt.lt {w : World} {b n : Nat} {es : Nat → UInt8} (h : BtAt w b n es) : b < w.heap.size := by
  obtain ⟨cs, lo, hi, h1, _⟩ := h.heap; exact (Array.getElem?_eq_some_iff.1 h1).1
theorem BtAt.cell {w : World} {b n : Nat} {es : Nat → UInt8} (h : BtAt w b n es) (i : Nat) (hi : i < n) : w.cell? ⟨b, i, none⟩ = some (.int .u8 ((es i).toNat : Int)) := by
  obtain ⟨cs, lo, hi', h1, _, _, h3⟩ := h.heap; rw [cell_of_row w b i cs _ _ h1]; exact h3 i hi
theorem BtAt.free {w : World} {b n : Nat} {es : Nat → UInt8} (h : BtAt w b n es) (i : Nat) (hi : i < n) : w.frozen? ⟨b, i, none⟩ = false := by
  obtain ⟨cs, lo, hi', h1, _, h2, _⟩ := h.heap
  unfold World.frozen?
  rw [h1]
  have : decide (lo ≤ i) = false := decide_eq_false (by omega)
  simp [this]
theorem BtAt.set {w : World} {b n : Nat} {es : Nat → UInt8} (h : BtAt w b n es) (k : Nat) (x : UInt8) (v : Value) (hv : v = .int .u8 (x.toNat : Int)) : BtAt (w.setCell ⟨b, k, none⟩ v) b n (fun i => if i = k then x else es i) := by
  subst hv
  obtain ⟨cs, lo, hi, h1, h2, h3, h4⟩ := h.heap
  refine ⟨cs.setIfInBounds k (.int .u8 (x.toNat : Int)), lo, hi, set_heap w b k _ _ _ _ h1, by simp [h2], h3, fun i hi => ?_⟩
  rw [Array.getElem?_setIfInBounds]
  by_cases e : k = i
  · subst e; simp; omega
  · rw [if_neg e, if_neg (fun q => e q.symm)]; exact h4 i hi
theorem BtAt.below {w w' : World} {b n : Nat} {es : Nat → UInt8} (h : BtAt w b n es) (hb : Below w.heap.size w w') : BtAt w' b n es := by
  obtain ⟨cs, lo, hi, h1, h2⟩ := h.heap
  exact ⟨cs, lo, hi, by rw [hb.block b h.lt]; exact h1, h2⟩
theorem BtAt.ext {w : World} {b n : Nat} {es es' : Nat → UInt8} (h : BtAt w b n es) (e : ∀ i, i < n → es i = es' i) : BtAt w b n es' := by
  obtain ⟨cs, lo, hi, h1, h2, h3, h4⟩ := h.heap
  exact ⟨cs, lo, hi, h1, h2, h3, fun i hi => by rw [h4 i hi, e i hi]⟩
end Go.Proofs.YthniemoganoapaaDoor
