/- The walk of known (the laws of layer 13). -/
import Derived.Test.YtaiolkeiabhcpaaDoorEscE
set_option maxRecDepth 100000
set_option linter.unusedVariables false
set_option linter.unusedSimpArgs false
namespace Go.Proofs.YtaiolkeiabhcpaaDoor
open Go.RowKit

namespace Ch
theorem k_undo1 : undo [97, 95, 120, 50, 101, 98] = some [97, 46, 98] := by decide +kernel
theorem k_undo2 : undo [97, 95, 120, 50] = none := by decide +kernel
theorem k_esc1 : esc 1 1 [97, 46, 98] = [97, 95, 120, 50, 101, 98] := by decide +kernel
theorem k_esc2 : esc 1 1 [95, 120] = [95, 120, 53, 102, 120] := by decide +kernel
theorem k_esc3 : esc 1 1 [95, 120, 52, 49] = [95, 120, 53, 102, 120, 52, 49] := by decide +kernel
theorem k_back1 : back 1 1 [95, 120, 52, 49] = [95, 120, 52, 49] := by decide +kernel
theorem k_back2 : back 1 1 [97, 95, 120, 50, 101, 98] = [97, 46, 98] := by decide +kernel
end Ch

/-- two texts, laid anew -/
def two (a b : ByteArray) (i : Nat) : ByteArray := if i = 0 then a else b
theorem two_row (w : World) (a b : ByteArray) (ha : a.size ≤ maxLen) (hb : b.size ≤ maxLen) : StrRow (w.alloc (.cells #[.string a, .string b] 9)) (.slice (some ⟨w.heap.size, 0, none⟩) 2 2) 2 (two a b) := by
  refine ⟨_, _, rfl, Nat.le_refl _, by unfold maxLen; omega, fun _ => ⟨w.heap.size, 0, rfl, by simp, fun i hi => ?_⟩⟩
  have hh : (w.alloc (.cells #[.string a, .string b] 9)).heap[w.heap.size]? = some (.cells #[.string a, .string b] 9 (0, 0)) := heap_alloc_new w _
  rw [Lib.cell_of_heap hh]
  match i, hi with
  | 0, _ => exact ⟨rfl, ha⟩
  | 1, _ => exact ⟨rfl, hb⟩

set_option maxHeartbeats 4000000 in
theorem esknown_calls (w : World) (hT : ChT w) (hM : MxT w) :
    Calls Tryd.prog 7 #[] w fun e w' => e = .returned (.bool true) ∧ Below w.heap.size w w' := by
  have u1 := fun W hW => undo_calls [97, 95, 120, 50, 101, 98] W (by decide) hW
  rw [Ch.k_undo1, show undoV (some [97, 46, 98]) = .tuple #[.string (str [97, 46, 98]), .bool true] from rfl] at u1
  have u2 := fun W hW => undo_calls [97, 95, 120, 50] W (by decide) hW
  rw [Ch.k_undo2, show undoV none = .tuple #[.string ⟨#[]⟩, .bool false] from rfl] at u2
  have e1 := fun W hW => escape_calls 1 1 [97, 46, 98] W (by decide) hW
  rw [Ch.k_esc1] at e1
  have e3 := fun W hW => escape_calls 1 1 [95, 120, 52, 49] W (by decide) hW
  rw [Ch.k_esc3] at e3
  have b1 := fun W hW hX => back_calls 1 1 [95, 120, 52, 49] W (by decide) hW hX
  rw [Ch.k_back1] at b1
  have b2 := fun W hW hX => back_calls 1 1 [97, 95, 120, 50, 101, 98] W (by decide) hW hX
  rw [Ch.k_back2] at b2
  go_enter Tryd.func7, Tryd.ntmps7
  go_wp2_with fail
  refine (u1 _ hM).mono ?_; rintro e w1 ⟨rfl, q1⟩
  have B1 := Lib.hid q1
  clear q1
  go_wp2_with fail
  refine (u2 _ (hM.below B1.out)).mono ?_; rintro e w2 ⟨rfl, q2⟩
  have B2 := Lib.hid (trans9 B1.out q2)
  clear q2
  go_wp2_with fail
  have R2 := two_row w2 (str [97, 46, 98]) (str [95, 120]) (by decide) (by decide)
  have B3 := Lib.hid (kp_alloc B2.out (.cells #[.string (str [97, 46, 98]), .string (str [95, 120])] 9))
  refine (all_calls 1 1 _ 2 _ _ (by decide) R2 (by intro i hi; match i, hi with | 0, _ => decide | 1, _ => decide) (hT.below B3.out)).mono ?_
  rintro e w4 ⟨rfl, t4, q4⟩
  have B4 := Lib.hid (trans9 B3.out q4)
  have c0 : w4.cell? ⟨(w2.alloc (.cells #[.string (str [97, 46, 98]), .string (str [95, 120])] 9)).heap.size, 0, none⟩ = some (.string (str [97, 95, 120, 50, 101, 98])) := (t4.cell 0 (by decide)).trans (by show some (Value.string (str (Ch.esc 1 1 [97, 46, 98]))) = _; rw [Ch.k_esc1])
  have c1 : w4.cell? ⟨(w2.alloc (.cells #[.string (str [97, 46, 98]), .string (str [95, 120])] 9)).heap.size, 1, none⟩ = some (.string (str [95, 120, 53, 102, 120])) := (t4.cell 1 (by decide)).trans (by show some (Value.string (str (Ch.esc 1 1 [95, 120]))) = _; rw [Ch.k_esc2])
  have hlt := t4.lt
  clear t4 q4 R2
  generalize (w2.alloc (.cells #[.string (str [97, 46, 98]), .string (str [95, 120])] 9)).heap.size = b at *
  clear B3 B2
  go_wp2_with fail
  refine (e1 _ (hT.below B4.out)).mono ?_; rintro e w5 ⟨rfl, q5⟩
  have B5 := Lib.hid (trans9 B4.out q5)
  have d0 := (q5.cell (p := ⟨b, 0, none⟩) hlt).trans c0
  have d1 := (q5.cell (p := ⟨b, 1, none⟩) hlt).trans c1
  have hlt5 := Nat.lt_of_lt_of_le hlt q5.size
  clear q5 c0 c1 hlt B4
  go_wp2_with fail
  refine (b1 _ (hT.below B5.out) (hM.below B5.out)).mono ?_; rintro e w6 ⟨rfl, q6⟩
  have B6 := Lib.hid (trans9 B5.out q6)
  replace d0 := (q6.cell (p := ⟨b, 0, none⟩) hlt5).trans d0
  replace d1 := (q6.cell (p := ⟨b, 1, none⟩) hlt5).trans d1
  have hlt6 := Nat.lt_of_lt_of_le hlt5 q6.size
  clear q6
  go_wp2_with fail
  refine (b2 _ (hT.below B6.out) (hM.below B6.out)).mono ?_; rintro e w7 ⟨rfl, q7⟩
  have B7 := Lib.hid (trans9 B6.out q7)
  replace d0 := (q7.cell (p := ⟨b, 0, none⟩) hlt6).trans d0
  replace d1 := (q7.cell (p := ⟨b, 1, none⟩) hlt6).trans d1
  have hlt7 := Nat.lt_of_lt_of_le hlt6 q7.size
  clear q7
  go_wp2_with fail
  refine (e3 _ (hT.below B7.out)).mono ?_; rintro e w8 ⟨rfl, q8⟩
  have B8 := Lib.hid (trans9 B7.out q8)
  replace d0 := (q8.cell (p := ⟨b, 0, none⟩) hlt7).trans d0
  replace d1 := (q8.cell (p := ⟨b, 1, none⟩) hlt7).trans d1
  have hlt8 := Nat.lt_of_lt_of_le hlt7 q8.size
  clear q8
  go_wp2_with fail
  go_ret
  exact ⟨rfl, B8.out⟩

end Go.Proofs.YtaiolkeiabhcpaaDoor
