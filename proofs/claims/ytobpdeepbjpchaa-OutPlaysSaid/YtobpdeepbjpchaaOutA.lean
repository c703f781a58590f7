/- The walks of package out. -/
import Derived.Test.YtobpdeepbjpchaaBuild
import Derived.Test.YtobpdeepbjpchaaFrame
import Derived.Deep.QuietTactic
import Derived.BigQuiet
namespace Go.Proofs.Ytobpdeepbjpchaa
open Go.RowKit

/-- the bytes of the first n of some strings, one behind the other -/
def catN (es : Nat → ByteArray) : Nat → List UInt8
  | 0 => []
  | n + 1 => catN es n ++ (es n).data.toList
def lenN (es : Nat → ByteArray) : Nat → Nat
  | 0 => 0
  | n + 1 => lenN es n + (es n).size
theorem catN_len (es : Nat → ByteArray) : ∀ n, (catN es n).length = lenN es n
  | 0 => rfl
  | n + 1 => by rw [catN, lenN, List.length_append, catN_len es n, Lib.size_eq]
theorem lenN_mono (es : Nat → ByteArray) {j n : Nat} (h : j ≤ n) : lenN es j ≤ lenN es n := by
  induction n with
  | zero => obtain rfl : j = 0 := by omega
            exact Nat.le_refl _
  | succ n ih =>
    by_cases e : j = n + 1
    · subst e; exact Nat.le_refl _
    · have := ih (by omega); rw [lenN]; omega
/-- a text and what is put behind it -/
def cat (t : ByteArray) (l : List UInt8) : ByteArray := ⟨(t.data.toList ++ l).toArray⟩
theorem cat_size (t : ByteArray) (l : List UInt8) : (cat t l).size = t.size + l.length := by
  rw [Lib.size_eq, Lib.size_eq t]; simp [cat]

/-- a slice of strings that may have come in by way of a world in which but one block has turned -/
theorem strRow_grown {w w' : World} {v : Value} {n : Nat} {es : Nat → ByteArray} (h : StrRow w v n es) (hb : Below w.heap.size w w') : StrRow w' v n es := by
  obtain ⟨a, cap, rfl, h1, h2, h3⟩ := h
  refine ⟨a, cap, rfl, h1, h2, fun h0 => ?_⟩
  obtain ⟨b, off, rfl, hlt, hc⟩ := h3 h0
  exact ⟨b, off, rfl, Nat.lt_of_lt_of_le hlt hb.size, fun i hi => ⟨(hb.cell (p := ⟨b, off + i, none⟩) hlt).trans (hc i hi).1, (hc i hi).2⟩⟩

set_option maxHeartbeats 1000000 in
theorem fit_calls (left : Nat) (v : Value) (n : Nat) (es : Nat → ByteArray) (w : World) (hv : StrRow w v n es) (hl : left ≤ 4611686018427387904) :
    Calls Try.prog 13 #[.int .i64 left, v] w fun e w' => e = .returned (.bool (decide (lenN es n ≤ left))) ∧ w = w' := by
  obtain ⟨a, cap, rfl, hnc, hcm, hcell⟩ := hv
  unfold maxLen at hcm
  have Hcell := Lib.hid hcell
  clear hcell
  go_enter Try.func13, Try.ntmps13
  go_wp2
  go_loop [0, 9] (fun l i => ∃ j : Nat, j ≤ n ∧ i = .int .i64 j ∧ ∃ r : Nat, r ≤ left ∧ l = .int .i64 r ∧ Hid (lenN es j + r = left)) (fun _ i => n - (intOf i).toNat)
  case atStart => exact ⟨0, Nat.zero_le _, rfl, left, Nat.le_refl _, rfl, by show _ = _; simp [lenN]⟩
  case round =>
    obtain ⟨j, hj, rfl, r, hr, rfl, H⟩ := hrel
    by_cases hjn : j < n
    · obtain ⟨b, off, rfl, hbs, hcs⟩ := Hcell.out (by omega)
      obtain ⟨e0, hm⟩ := hcs j hjn
      have hmono := Lib.hid (lenN_mono es (j := j + 1) (n := n) hjn)
      clear hcs
      unfold maxLen at hm
      by_cases hc : r < (es j).size
      · go_wp2
        go_ret
        refine ⟨ret_bool ?_, rfl⟩
        have := hmono.out; have h := H.out
        rw [lenN] at this
        exact (decide_eq_false (by omega)).symm
      · have hsub : ((r - (es j).size : Nat) : Int) = (r : Int) - (es j).size := by omega
        have Hs := Lib.hid hsub
        clear hsub
        go_wp2
        go_round
        case rel => exact ⟨j + 1, by omega, by go_num, r - (es j).size, by omega, by rw [Hs.out], by have h := H.out; show _ = _; rw [lenN]; omega⟩
        case measure => simp [intOf]; omega
    · obtain rfl : j = n := by omega
      go_wp2
      go_ret
      refine ⟨ret_bool ?_, rfl⟩
      have h := H.out
      exact (decide_eq_true (by omega)).symm

set_option maxHeartbeats 2000000 in
theorem join_calls (t : ByteArray) (v : Value) (n : Nat) (es : Nat → ByteArray) (w : World) (hv : StrRow w v n es) (hl : t.size + lenN es n ≤ 140737488355328) :
    Calls Try.prog 14 #[.string t, v] w fun e w' => e = .returned (.string (cat t (catN es n))) ∧ Below w.heap.size w w' := by
  obtain ⟨a, cap, rfl, hnc, hcm, hcell⟩ := hv
  unfold maxLen at hcm
  have h0 := Lib.fresh_isBuilder 41 5 w
  have b0 : Below w.heap.size w (w.alloc (.cells #[.pointer none, .slice none 0 0] 41)) := (Below.refl _ w).alloc (Nat.le_refl _) _
  have Hcell := Lib.hid hcell
  clear hcell
  go_enter Try.func14, Try.ntmps14
  go_wp2_with fail
  refine (bwrite_calls w.heap.size w.heap.size [] t _ h0 (by simp; omega) b0.size).mono ?_
  rintro e w1 ⟨rfl, h1, b1⟩
  have B1 := Lib.hid (b0.trans b1)
  have H1 : Hid (Lib.IsBuilder 41 5 w.heap.size w.heap.size (Lib.byteCells (t.data.toList ++ catN es 0)) w1) := by
    rw [List.nil_append, Lib.strCells_eq] at h1
    rw [catN, List.append_nil]
    exact Or.inr h1
  clear h0 b0 h1 b1
  go_wp2_with fail
  go_loopw [12] (fun i wr => ∃ j : Nat, j ≤ n ∧ i = .int .i64 j ∧ Hid (Below w.heap.size w wr ∧ Lib.IsBuilder 41 5 w.heap.size w.heap.size (Lib.byteCells (t.data.toList ++ catN es j)) wr)) (fun i _ => n - (intOf i).toNat)
  case atStart => exact ⟨0, Nat.zero_le _, rfl, B1.out, H1.out⟩
  case round =>
    obtain ⟨j, hj, rfl, H⟩ := hrel
    obtain ⟨hb, hB⟩ := H.out
    by_cases hjn : j < n
    · obtain ⟨b, off, rfl, hbs, hcs⟩ := Hcell.out (by omega)
      obtain ⟨e0, hm⟩ := hcs j hjn
      have e0 := (hb.cell (p := ⟨b, off + j, none⟩) hbs).trans e0
      have hmono := lenN_mono es (j := j + 1) (n := n) hjn
      rw [lenN] at hmono
      have hlen : (Lib.byteCells (t.data.toList ++ catN es j)).length + (es j).size ≤ 140737488355328 := by
        rw [Lib.byteCells_length, List.length_append, catN_len, ← Lib.size_eq]; omega
      have Hw := Lib.hid (bwrite_calls w.heap.size w.heap.size _ (es j) _ hB hlen hb.size)
      have Hb := Lib.hid hb
      clear hcs hB hlen hmono hb
      go_wp2_with fail
      refine Hw.out.mono ?_
      rintro e w2 ⟨rfl, h2, b2⟩
      have H2 : Hid (Lib.IsBuilder 41 5 w.heap.size w.heap.size (Lib.byteCells (t.data.toList ++ catN es (j + 1))) w2) := by
        rw [Lib.strCells_eq, ← Lib.byteCells_append, List.append_assoc] at h2
        exact Or.inr h2
      have B2 := Lib.hid (Hb.out.trans b2)
      clear h2 b2 Hw Hb
      go_wp2_with fail
      go_roundw
      case rel => exact ⟨j + 1, by omega, by go_num, B2.out, H2.out⟩
      case measure => simp [intOf]; omega
    · obtain rfl : j = n := by omega
      have Hs := Lib.hid (bstring_calls w.heap.size w.heap.size _ _ hB hb.size)
      have Hb := Lib.hid hb
      clear hB hb
      go_wp2_with fail
      refine Hs.out.mono ?_
      rintro e w2 ⟨rfl, b2⟩
      go_wp2
      go_ret
      exact ⟨rfl, Hb.out.trans b2⟩

end Go.Proofs.Ytobpdeepbjpchaa
