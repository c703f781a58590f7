/- Rows of texts that a call makes anew (make([]string, n)). -/
import Derived.Test.YtgdhfmcipaoapaaDoorGrd
import Derived.Laws.OwnMore
import Derived.Deep.WholeRow
import Derived.Lib.SliceRun
import Derived.Lib.Builder
set_option maxRecDepth 100000
set_option linter.unusedVariables false
set_option linter.unusedSimpArgs false
namespace Go.Proofs.YtgdhfmcipaoapaaDoor
open Go.RowKit

/-- texts lie in block b, from its begin on -/
structure TxAt (w : World) (b n : Nat) (es : Nat → ByteArray) : Prop where
  heap : ∃ cs, w.heap[b]? = some (.cells cs 9 (0, 0)) ∧ cs.size = n ∧ ∀ i, i < n → cs[i]? = some (.string (es i))
theorem TxAt.lt {w : World} {b n : Nat} {es : Nat → ByteArray} (h : TxAt w b n es) : b < w.heap.size := by
  obtain ⟨cs, h1, _⟩ := h.heap; exact (Array.getElem?_eq_some_iff.1 h1).1
theorem TxAt.cell {w : World} {b n : Nat} {es : Nat → ByteArray} (h : TxAt w b n es) (i : Nat) (hi : i < n) : w.cell? ⟨b, i, none⟩ = some (.string (es i)) := by
  obtain ⟨cs, h1, _, h3⟩ := h.heap; rw [Lib.cell_of_heap h1]; exact h3 i hi
theorem TxAt.free {w : World} {b n : Nat} {es : Nat → ByteArray} (h : TxAt w b n es) (i : Nat) : w.frozen? ⟨b, i, none⟩ = false := by
  obtain ⟨cs, h1, _⟩ := h.heap; exact Lib.frozen_of_heap h1 i
theorem TxAt.set {w : World} {b n : Nat} {es : Nat → ByteArray} (h : TxAt w b n es) (k : Nat) (x : ByteArray) : TxAt (w.setCell ⟨b, k, none⟩ (.string x)) b n (fun i => if i = k then x else es i) := by
  obtain ⟨cs, h1, h2, h3⟩ := h.heap
  refine ⟨cs.setIfInBounds k (.string x), heap_setCell_same w b k _ _ _ h1, by simp [h2], fun i hi => ?_⟩
  rw [Array.getElem?_setIfInBounds]
  by_cases e : k = i
  · subst e; simp [h2, hi]
  · rw [if_neg e, if_neg (fun q => e q.symm)]; exact h3 i hi
theorem TxAt.below {w w' : World} {b n : Nat} {es : Nat → ByteArray} (h : TxAt w b n es) (hb : Below w.heap.size w w') : TxAt w' b n es := by
  obtain ⟨cs, h1, h2⟩ := h.heap
  exact ⟨cs, by rw [hb.block b h.lt]; exact h1, h2⟩
theorem TxAt.ext {w : World} {b n : Nat} {es es' : Nat → ByteArray} (h : TxAt w b n es) (e : ∀ i, i < n → es i = es' i) : TxAt w b n es' := by
  obtain ⟨cs, h1, h2, h3⟩ := h.heap
  exact ⟨cs, h1, h2, fun i hi => by rw [h3 i hi, e i hi]⟩
theorem TxAt.new (w : World) (n : Nat) : TxAt (w.alloc (.cells (madeCells #[.string ⟨#[]⟩] n) 9)) w.heap.size n (fun _ => ⟨#[]⟩) :=
  ⟨_, heap_alloc_new w _, by rw [← Array.length_toList, toList_madeCells_one]; simp, fun i hi => by rw [← Array.getElem?_toList, toList_madeCells_one]; simp [hi]⟩
theorem TxAt.row {w : World} {b n : Nat} {es : Nat → ByteArray} (h : TxAt w b n es) (hn : n ≤ maxLen) (hs : ∀ i, i < n → (es i).size ≤ maxLen) : StrRow w (.slice (some ⟨b, 0, none⟩) n n) n es :=
  ⟨_, _, rfl, Nat.le_refl _, hn, fun _ => ⟨b, 0, rfl, h.lt, fun i hi => ⟨by rw [Nat.zero_add]; exact h.cell i hi, hs i hi⟩⟩⟩
theorem make_texts (n : Nat) (hn : n ≤ 20000) (w : World) : (Instr.makeSlice 22 (.int .i64 (n : Int)) (.int .i64 (n : Int))).run Tryd.prog w = .ok (.slice (some ⟨w.heap.size, 0, none⟩) n n) (w.alloc (.cells (madeCells #[.string ⟨#[]⟩] n) 9)) := by
  obtain ⟨i, hi, hz, h1, h2⟩ := info_parts (P := Tryd.prog) (t := 9) (z := .string ⟨#[]⟩) (n := 1) (m := 16) (by kernel_rfl)
  have h := run_make (P := Tryd.prog) w 22 9 i (.string ⟨#[]⟩) Tryd.underlying22 hi hz .i64 .i64 n n (by omega) (by omega) (by rw [h2]; omega) (by omega)
  rw [h, h1]
  simp [Value.cells]

end Go.Proofs.YtgdhfmcipaoapaaDoor
