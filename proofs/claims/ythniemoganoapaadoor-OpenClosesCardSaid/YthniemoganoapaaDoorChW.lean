/- The texts ByRow, one behind the other. -/
import Derived.Test.YthniemoganoapaaDoorGrd
import Derived.Laws.IdiomStrings
import Derived.Laws.BytesArg
import Derived.Laws.OwnMore
import Derived.Lib.UnsafeStr

/- Rows of bytes that a call makes anew: appended byte by byte, or made of a text; read back as a text. -/
set_option maxRecDepth 100000
set_option linter.unusedVariables false
set_option linter.unusedSimpArgs false
namespace Go.Proofs.YthniemoganoapaaDoor
open Go.RowKit

theorem econv_own {w : World} {B n : Nat} {v : Value} {l : List UInt8} (h : w.ownsRow B 5 1 v n (Lib.byteCells l)) : (convert 72 9 v).run Tryd.prog w = .ok (.string (str l)) w := by
  have hn : n = l.length := by have := h.1; rw [Lib.byteCells_length] at this; omega
  subst hn
  rcases h.2 with ⟨rfl, h0⟩ | ⟨g, cap, cur, rfl, hg, hc, h1, h2, h3, h4⟩
  · obtain rfl := List.eq_nil_of_length_eq_zero h0
    exact run_convert_bytes_nil w 72 5 Tryd.underlying72 Tryd.underlying5 0 0 9 Tryd.underlying9
  · refine run_convert_bytes_back w 72 9 5 ⟨g, 0, none⟩ cap l Tryd.underlying72 Tryd.underlying5 Tryd.underlying9 (fun j hj => ?_)
    exact h.cells (g := g) rfl j _ (by simp [Lib.byteCells, hj])
theorem own_put {w : World} {B n : Nat} {v : Value} {l : List UInt8} {c : UInt8} (h : w.ownsRow B 5 1 v n (Lib.byteCells l ++ [.int .u8 (c.toNat : Int)])) : w.ownsRow B 5 1 v n (Lib.byteCells (l ++ [c])) := by
  have e : Lib.byteCells l ++ [.int .u8 (c.toNat : Int)] = Lib.byteCells (l ++ [c]) := by simp [Lib.byteCells]
  rw [e] at h; exact h

theorem set_heap (w : World) (b k : Nat) (cs : Array Value) (t : TypeId) (fr : Nat × Nat) (v : Value) (h : w.heap[b]? = some (.cells cs t fr)) : (w.setCell ⟨b, k, none⟩ v).heap[b]? = some (.cells (cs.setIfInBounds k v) t fr) := by
  show (w.heap.modify b _)[b]? = _
  rw [Array.getElem?_modify, if_pos rfl, h]; rfl
/-- bytes lie in block b, from its begin on, and may be stored to -/
structure BtAt (w : World) (b n : Nat) (es : Nat → UInt8) : Prop where
  heap : ∃ cs lo hi, w.heap[b]? = some (.cells cs 5 (lo, hi)) ∧ n ≤ cs.size ∧ n ≤ lo ∧ ∀ i, i < n → cs[i]? = some (.int .u8 ((es i).toNat : Int))
theorem BtAt.lt {w : World} {b n : Nat} {es : Nat → UInt8} (h : BtAt w b n es) : b < w.heap.size := by
  obtain ⟨cs, lo, hi, h1, _⟩ := h.heap; exact (Array.getElem?_eq_some_iff.1 h1).1
theorem BtAt.cell {w : World} {b n : Nat} {es : Nat → UInt8} (h : BtAt w b n es) (i : Nat) (hi : i < n) : w.cell? ⟨b, i, none⟩ = some (.int .u8 ((es i).toNat : Int)) := by
  obtain ⟨cs, lo, hi', h1, _, _, h3⟩ := h.heap; rw [cell_of_row w b i cs _ _ h1]; exact h3 i hi
theorem BtAt.free {w : World} {b n : Nat} {es : Nat → UInt8} (h : BtAt w b n es) (i : Nat) (hi : i < n) : w.frozen? ⟨b, i, none⟩ = false := by
  obtain ⟨cs, lo, hi', h1, _, h2, _⟩ := h.heap
  unfold World.frozen?
  rw [h1]
  have : decide (lo ≤ i) = false := decide_eq_false (by omega)
  simp [this]
theorem BtAt.set {w : World} {b n : Nat} {es : Nat → UInt8} (h : BtAt w b n es) (k : Nat) (x : UInt8) (v : Value) (hv : v = .int .u8 (x.toNat : Int)) : BtAt (w.setCell ⟨b, k, none⟩ v) b n (fun i => if i = k then x else es i) := by
  subst hv
  obtain ⟨cs, lo, hi, h1, h2, h3, h4⟩ := h.heap
  refine ⟨cs.setIfInBounds k (.int .u8 (x.toNat : Int)), lo, hi, set_heap w b k _ _ _ _ h1, by simp [h2], h3, fun i hi => ?_⟩
  rw [Array.getElem?_setIfInBounds]
  by_cases e : k = i
  · subst e; simp; omega
  · rw [if_neg e, if_neg (fun q => e q.symm)]; exact h4 i hi
theorem BtAt.below {w w' : World} {b n : Nat} {es : Nat → UInt8} (h : BtAt w b n es) (hb : Below w.heap.size w w') : BtAt w' b n es := by
  obtain ⟨cs, lo, hi, h1, h2⟩ := h.heap
  exact ⟨cs, lo, hi, by rw [hb.block b h.lt]; exact h1, h2⟩
theorem BtAt.ext {w : World} {b n : Nat} {es es' : Nat → UInt8} (h : BtAt w b n es) (e : ∀ i, i < n → es i = es' i) : BtAt w b n es' := by
  obtain ⟨cs, lo, hi, h1, h2, h3, h4⟩ := h.heap
  exact ⟨cs, lo, hi, h1, h2, h3, fun i hi => by rw [h4 i hi, e i hi]⟩
/-- '[]byte(s)' -/
theorem bytes_of (l : List UInt8) (w : World) : ∃ cap w', (convert 9 72 (.string (str l))).run Tryd.prog w = .ok (.slice (some ⟨w.heap.size, 0, none⟩) l.length cap) w' ∧ Below w.heap.size w w' ∧ BtAt w' w.heap.size l.length (fun i => l.getD i 0) := by
  have h := run_bytes_of_string (P := Tryd.prog) w 9 72 5 (str l) Tryd.underlying9 Tryd.underlying72 Tryd.underlying5
  rw [str_size] at h
  refine ⟨_, _, h, ((Below.refl _ _).drew).alloc (Nat.le_refl _) _, ?_⟩
  · generalize hg : grownCap w l.length 0 5 = cap
    refine ⟨_, _, _, heap_alloc_new w.drew _, ?_, ?_, fun i hi => ?_⟩
    · unfold bytesRow; simp
    · unfold bytesRow; simp
    · rw [bytesRow_at (str l) cap i (by simpa using hi)]
      simp [List.getD_eq_getElem?_getD, hi]
/-- 'string(b)' -/
theorem text_of {w : World} {b : Nat} {l : List UInt8} (cap : Nat) (h : BtAt w b l.length (fun i => l.getD i 0)) : (convert 72 9 (.slice (some ⟨b, 0, none⟩) l.length cap)).run Tryd.prog w = .ok (.string (str l)) w :=
  run_convert_bytes_back w 72 9 5 ⟨b, 0, none⟩ cap l Tryd.underlying72 Tryd.underlying5 Tryd.underlying9 (fun j hj => by
    rw [Addr.add_lit, Nat.zero_add]
    have := h.cell j hj
    rw [this]
    simp [List.getD_eq_getElem?_getD, hj])

end Go.Proofs.YthniemoganoapaaDoor
