/- The walk of package escape's All. -/
import Derived.Test.YtaiolkeiabhcpaaDoorEscD
import Derived.Test.YtaiolkeiabhcpaaDoorGrd
import Derived.Laws.OwnMore
import Derived.Deep.WholeRow
set_option maxRecDepth 100000
set_option linter.unusedVariables false
set_option linter.unusedSimpArgs false
namespace Go.Proofs.YtaiolkeiabhcpaaDoor
open Go.RowKit

/-- texts lie in block b, from its begin on -/
structure TxAt (w : World) (b n : Nat) (es : Nat → ByteArray) : Prop where
  heap : ∃ cs, w.heap[b]? = some (.cells cs 9 (0, 0)) ∧ cs.size = n ∧ ∀ i, i < n → cs[i]? = some (.string (es i))
theorem TxAt.lt {w : World} {b n : Nat} {es : Nat → ByteArray} (h : TxAt w b n es) : b < w.heap.size := by
  obtain ⟨cs, h1, _⟩ := h.heap; exact (Array.getElem?_eq_some_iff.1 h1).1
theorem TxAt.cell {w : World} {b n : Nat} {es : Nat → ByteArray} (h : TxAt w b n es) (i : Nat) (hi : i < n) : w.cell? ⟨b, i, none⟩ = some (.string (es i)) := by
  obtain ⟨cs, h1, _, h3⟩ := h.heap; rw [Lib.cell_of_heap h1]; exact h3 i hi
theorem TxAt.free {w : World} {b n : Nat} {es : Nat → ByteArray} (h : TxAt w b n es) (i : Nat) : w.frozen? ⟨b, i, none⟩ = false := by
  obtain ⟨cs, h1, _⟩ := h.heap; exact Lib.frozen_of_heap h1 i
theorem TxAt.set {w : World} {b n : Nat} {es : Nat → ByteArray} (h : TxAt w b n es) (k : Nat) (x : ByteArray) : TxAt (w.setCell ⟨b, k, none⟩ (.string x)) b n (fun i => if i = k then x else es i) := by
  obtain ⟨cs, h1, h2, h3⟩ := h.heap
  refine ⟨cs.setIfInBounds k (.string x), heap_setCell_same w b k _ _ _ h1, by simp [h2], fun i hi => ?_⟩
  rw [Array.getElem?_setIfInBounds]
  by_cases e : k = i
  · subst e; simp [h2, hi]
  · rw [if_neg e, if_neg (fun q => e q.symm)]; exact h3 i hi
theorem TxAt.below {w w' : World} {b n : Nat} {es : Nat → ByteArray} (h : TxAt w b n es) (hb : Below w.heap.size w w') : TxAt w' b n es := by
  obtain ⟨cs, h1, h2⟩ := h.heap
  exact ⟨cs, by rw [hb.block b h.lt]; exact h1, h2⟩
theorem TxAt.ext {w : World} {b n : Nat} {es es' : Nat → ByteArray} (h : TxAt w b n es) (e : ∀ i, i < n → es i = es' i) : TxAt w b n es' := by
  obtain ⟨cs, h1, h2, h3⟩ := h.heap
  exact ⟨cs, h1, h2, fun i hi => by rw [h3 i hi, e i hi]⟩
theorem TxAt.new (w : World) (n : Nat) : TxAt (w.alloc (.cells (madeCells #[.string ⟨#[]⟩] n) 9)) w.heap.size n (fun _ => ⟨#[]⟩) :=
  ⟨_, heap_alloc_new w _, by rw [← Array.length_toList, toList_madeCells_one]; simp, fun i hi => by rw [← Array.getElem?_toList, toList_madeCells_one]; simp [hi]⟩
theorem TxAt.row {w : World} {b n : Nat} {es : Nat → ByteArray} (h : TxAt w b n es) (hn : n ≤ maxLen) (hs : ∀ i, i < n → (es i).size ≤ maxLen) : StrRow w (.slice (some ⟨b, 0, none⟩) n n) n es :=
  ⟨_, _, rfl, Nat.le_refl _, hn, fun _ => ⟨b, 0, rfl, h.lt, fun i hi => ⟨by rw [Nat.zero_add]; exact h.cell i hi, hs i hi⟩⟩⟩
theorem make_texts (n : Nat) (hn : n ≤ 20000) (w : World) : (Instr.makeSlice 22 (.int .i64 (n : Int)) (.int .i64 (n : Int))).run Tryd.prog w = .ok (.slice (some ⟨w.heap.size, 0, none⟩) n n) (w.alloc (.cells (madeCells #[.string ⟨#[]⟩] n) 9)) := by
  obtain ⟨i, hi, hz, h1, h2⟩ := info_parts (P := Tryd.prog) (t := 9) (z := .string ⟨#[]⟩) (n := 1) (m := 16) (by kernel_rfl)
  have h := run_make (P := Tryd.prog) w 22 9 i (.string ⟨#[]⟩) Tryd.underlying22 hi hz .i64 .i64 n n (by omega) (by omega) (by rw [h2]; omega) (by omega)
  rw [h, h1]
  simp [Value.cells]

/-- what the names become -/
def escAll (p s : Int) (es : Nat → ByteArray) (i : Nat) : ByteArray := str (Ch.esc p s (es i).data.toList)
theorem esc_len4 (p s : Int) (l : List UInt8) : (Ch.esc p s l).length ≤ 4 * l.length := by
  have h : ∀ (l : List UInt8) (prev : Option UInt8), (Ch.escL p s prev l).length ≤ 4 * l.length := by
    intro l
    induction l with
    | nil => intro _; simp [Ch.escL]
    | cons c r ih =>
      intro prev
      unfold Ch.escL
      rw [List.length_append]
      have := ih (some c)
      split
      · simp; omega
      · simp [Ch.code]; omega
  exact h l none

set_option maxHeartbeats 2000000 in
theorem all_calls (p s : Int) (nv : Value) (n : Nat) (es : Nat → ByteArray) (w : World) (hn : n ≤ 10) (hr : StrRow w nv n es) (hs : ∀ i, i < n → (es i).size ≤ 4194304) (hT : ChT w) :
    Calls Tryd.prog 12 #[.int .i64 p, .int .i64 s, nv] w fun e w' => e = .returned (.slice (some ⟨w.heap.size, 0, none⟩) n n) ∧ TxAt w' w.heap.size n (escAll p s es) ∧ Below w.heap.size w w' := by
  obtain ⟨a, cap, rfl, h1, h2, h3⟩ := hr
  have Hcell := Lib.hid h3
  unfold maxLen at h2
  clear h3
  have hmk := make_texts n (by omega)
  go_enter Tryd.func12, Tryd.ntmps12
  go_wp2_with fail
  have b0 := (Below.refl w.heap.size w).alloc (Nat.le_refl _) (.cells (madeCells #[.string ⟨#[]⟩] n) 9)
  have T0 := Lib.hid (TxAt.new w n)
  have B0 := Lib.hid b0
  clear b0
  generalize w.alloc (.cells (madeCells #[.string ⟨#[]⟩] n) 9) = W0 at *
  go_loopw [15] (fun v wr => ∃ k : Nat, k ≤ n ∧ v = .int .i64 (k : Nat) ∧ Hid (Below w.heap.size w wr ∧ TxAt wr w.heap.size n (fun i => if i < k then escAll p s es i else ⟨#[]⟩))) (fun v _ => n - (intOf v).toNat)
  case atStart => exact ⟨0, by omega, rfl, B0.out, T0.out.ext (fun i _ => by rw [if_neg (by omega)])⟩
  case round =>
    obtain ⟨k, hk, rfl, H⟩ := hrel
    by_cases h : k < n
    · obtain ⟨b, off, rfl, hbs, hcs⟩ := Hcell.out (by omega)
      have c0 := (H.out.1.cell (p := ⟨b, off + k, none⟩) hbs).trans (hcs k h).1
      have hlt : decide ((k : Int) < (n : Int)) = true := by simp; omega
      have hlt' : decide (k < n) = true := decide_eq_true h
      have he := escape_calls p s (es k).data.toList wr (by rw [← Lib.size_eq]; exact hs k h) (hT.below H.out.1)
      rw [← str_self] at he
      clear hcs
      go_wp2_with fail
      refine he.mono ?_; rintro e w1 ⟨rfl, b1⟩
      have B1 := Lib.hid (trans9 H.out.1 b1)
      have T1 := H.out.2.below b1
      have c2 := T1.cell k h
      have f2 := T1.free k
      have T2 := Lib.hid ((T1.set k (escAll p s es k)).ext (es' := fun i => if i < k + 1 then escAll p s es i else ⟨#[]⟩) (fun i _ => by
        by_cases e : i = k
        · subst e; rw [if_pos rfl, if_pos (by omega)]
        · rw [if_neg e]
          by_cases h : i < k
          · rw [if_pos h, if_pos (by omega)]
          · rw [if_neg h, if_neg (by omega)]))
      clear T1 b1
      go_wp2_with fail
      go_roundw
      case rel => exact ⟨k + 1, h, by go_num, B1.out.setCell (Nat.le_refl _) _, T2.out⟩
      case measure => simp [intOf]; omega
    · have hlt : decide ((k : Int) < (n : Int)) = false := by simp; omega
      have hlt' : decide (k < n) = false := decide_eq_false h
      have T2 := Lib.hid (H.out.2.ext (es' := escAll p s es) (fun i hi => by rw [if_pos (by omega)]))
      go_wp2
      go_ret
      exact ⟨rfl, T2.out, H.out.1⟩

end Go.Proofs.YtaiolkeiabhcpaaDoor
