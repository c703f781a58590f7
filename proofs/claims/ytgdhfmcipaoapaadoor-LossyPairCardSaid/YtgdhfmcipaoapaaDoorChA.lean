/- The walks of package charset's class, set, parts, placed, Legal. -/
import Derived.Test.YtgdhfmcipaoapaaDoorChPlain
import Derived.Test.YtgdhfmcipaoapaaDoorGrd
import Derived.Deep.RegionHeld3
set_option maxRecDepth 100000
set_option linter.unusedVariables false
set_option linter.unusedSimpArgs false
namespace Go.Proofs.YtgdhfmcipaoapaaDoor
open Go.RowKit

/-- what the table of spans holds -/
def chSpans : Array Value := #[.int .u8 32, .int .u8 34, .int .u8 128, .int .u8 35, .int .u8 35, .int .u8 64, .int .u8 36, .int .u8 44, .int .u8 128, .int .u8 45, .int .u8 45, .int .u8 8, .int .u8 46, .int .u8 46, .int .u8 32, .int .u8 47, .int .u8 47, .int .u8 128,
  .int .u8 48, .int .u8 57, .int .u8 2, .int .u8 58, .int .u8 58, .int .u8 16, .int .u8 59, .int .u8 64, .int .u8 128, .int .u8 65, .int .u8 90, .int .u8 1, .int .u8 91, .int .u8 91, .int .u8 128, .int .u8 93, .int .u8 94, .int .u8 128,
  .int .u8 95, .int .u8 95, .int .u8 4, .int .u8 96, .int .u8 96, .int .u8 128, .int .u8 97, .int .u8 122, .int .u8 1, .int .u8 123, .int .u8 126, .int .u8 128]
/-- the package's tables lie in the world -/
structure ChT (w : World) : Prop where
  spans : ∃ t fr, w.heap[0]? = some (.cells chSpans t fr)
  sets : ∃ t fr, w.heap[1]? = some (.cells #[.int .u8 0, .int .u8 0, .int .u8 23, .int .u8 7, .int .u8 255, .int .u8 255, .int .u8 63, .int .u8 31, .int .u8 47, .int .u8 47] t fr)
theorem ChT.below {w w' : World} (h : ChT w) (hb : Below w.heap.size w w') : ChT w' := by
  obtain ⟨⟨t, fr, h1⟩, ⟨t2, fr2, h2⟩⟩ := h
  exact ⟨⟨t, fr, by rw [hb.block _ (Array.getElem?_eq_some_iff.1 h1).1]; exact h1⟩, ⟨t2, fr2, by rw [hb.block _ (Array.getElem?_eq_some_iff.1 h2).1]; exact h2⟩⟩
theorem ch_cell {w : World} {g : Nat} {cs : Array Value} {t : TypeId} {fr : Nat × Nat} (h : w.heap[g]? = some (.cells cs t fr)) (j : Nat) {v : Value} (hv : cs[j]? = some v) : w.cell? ⟨g, j, none⟩ = some v := by
  rw [cell_of_row w g j cs t fr h]; exact hv

theorem ch_span (k : Nat) (hk : k < 16) : ∃ lo hi cl : Nat, Ch.spans.drop k = (lo, hi, cl) :: Ch.spans.drop (k + 1) ∧
    ∀ w : World, (Instr.index 68 (.agg chSpans) (.int .i64 k)).run Tryd.prog w = .ok (.agg #[.int .u8 (lo : Nat), .int .u8 (hi : Nat), .int .u8 (cl : Nat)]) w := by
  match k, hk with
  | 0, _ => exact ⟨32, 34, 128, rfl, fun _ => by kernel_rfl⟩
  | 1, _ => exact ⟨35, 35, 64, rfl, fun _ => by kernel_rfl⟩
  | 2, _ => exact ⟨36, 44, 128, rfl, fun _ => by kernel_rfl⟩
  | 3, _ => exact ⟨45, 45, 8, rfl, fun _ => by kernel_rfl⟩
  | 4, _ => exact ⟨46, 46, 32, rfl, fun _ => by kernel_rfl⟩
  | 5, _ => exact ⟨47, 47, 128, rfl, fun _ => by kernel_rfl⟩
  | 6, _ => exact ⟨48, 57, 2, rfl, fun _ => by kernel_rfl⟩
  | 7, _ => exact ⟨58, 58, 16, rfl, fun _ => by kernel_rfl⟩
  | 8, _ => exact ⟨59, 64, 128, rfl, fun _ => by kernel_rfl⟩
  | 9, _ => exact ⟨65, 90, 1, rfl, fun _ => by kernel_rfl⟩
  | 10, _ => exact ⟨91, 91, 128, rfl, fun _ => by kernel_rfl⟩
  | 11, _ => exact ⟨93, 94, 128, rfl, fun _ => by kernel_rfl⟩
  | 12, _ => exact ⟨95, 95, 4, rfl, fun _ => by kernel_rfl⟩
  | 13, _ => exact ⟨96, 96, 128, rfl, fun _ => by kernel_rfl⟩
  | 14, _ => exact ⟨97, 122, 1, rfl, fun _ => by kernel_rfl⟩
  | 15, _ => exact ⟨123, 126, 128, rfl, fun _ => by kernel_rfl⟩
  | k + 16, h => exact absurd h (by omega)

set_option maxHeartbeats 1000000 in
theorem chclass_calls (c : UInt8) (w : World) (hT : ChT w) :
    Calls Tryd.prog 23 #[.int .u8 (c.toNat : Int)] w fun e w' => e = .returned (.int .u8 (Ch.cls c : Nat)) ∧ Below w.heap.size w w' := by
  obtain ⟨⟨tt, fr, hsh⟩, _⟩ := hT
  have hsz : 0 < w.heap.size := (Array.getElem?_eq_some_iff.1 hsh).1
  have hc : c.toNat < 256 := c.toNat_lt
  have hcl : Ch.cls c = Ch.clsF (Ch.spans.drop 0) c.toNat := rfl
  generalize Ch.cls c = C at *
  generalize c.toNat = n at *
  go_enter Tryd.func23, Tryd.ntmps23
  go_wp2_with (refine wpList_load_row rfl 68 _ rfl 0 rfl tt chSpans fr _ hsh Tryd.underlying68 rfl (by kernel_rfl) ?_)
  go_loopw [6] (fun v wr => ∃ k : Nat, k ≤ 16 ∧ C = Ch.clsF (Ch.spans.drop k) n ∧ v = .int .i64 k ∧ Below w.heap.size w wr) (fun v _ => (16 - intOf v).toNat)
  case atStart => exact ⟨0, by omega, hcl, rfl, Below.refl _ _⟩
  case round =>
    obtain ⟨k, hk, hC, rfl, hb⟩ := hrel
    have HC := Lib.hid hC
    clear hC hcl
    have hz : w.heap.size ≤ wr.heap.size := hb.size
    by_cases hlt : k < 16
    · obtain ⟨lo, hi, cl, hdr, hidx⟩ := ch_span k hlt
      have HD := Lib.hid hdr
      clear hdr
      by_cases h1 : n ≤ hi
      · have d1 : decide ((n : Int) ≤ (hi : Int)) = true := by simp; omega
        have d1' : decide (n ≤ hi) = true := by simp; omega
        by_cases h2 : n < lo
        · have d2 : decide ((n : Int) < (lo : Int)) = true := by simp; omega
          have d2' : decide (n < lo) = true := by simp; omega
          have HR := Lib.hid (show C = 0 by rw [HC.out, HD.out]; simp only [Ch.clsF]; rw [if_pos h1, if_pos h2])
          go_wp2
          go_ret
          exact ⟨by rw [HR.out]; rfl, hb.alloc hz _⟩
        · have d2 : decide ((n : Int) < (lo : Int)) = false := by simp; omega
          have d2' : decide (n < lo) = false := by simp; omega
          have HR := Lib.hid (show C = cl by rw [HC.out, HD.out]; simp only [Ch.clsF]; rw [if_pos h1, if_neg h2])
          go_wp2
          go_ret
          exact ⟨by rw [HR.out]; rfl, hb.alloc hz _⟩
      · have d1 : decide ((n : Int) ≤ (hi : Int)) = false := by simp; omega
        have d1' : decide (n ≤ hi) = false := by simp; omega
        have HR := Lib.hid (show C = Ch.clsF (Ch.spans.drop (k + 1)) n by rw [HC.out, HD.out]; simp only [Ch.clsF]; rw [if_neg h1])
        go_wp2
        go_roundw
        case rel => exact ⟨k + 1, by omega, HR.out, by go_num, hb.alloc hz _⟩
        case measure => simp [intOf]; omega
    · go_wp2
      go_ret
      exact ⟨by rw [HC.out, show k = 16 by omega]; rfl, hb⟩

set_option maxHeartbeats 1000000 in
theorem chset_calls (p s : Int) (w : World) (hT : ChT w) :
    Calls Tryd.prog 24 #[.int .i64 p, .int .i64 s] w fun e w' => e = .returned (.int .u8 (Ch.setN p s : Nat)) ∧ w = w' := by
  obtain ⟨_, ⟨tt, fr, h⟩⟩ := hT
  have c0 := ch_cell h 0 rfl
  have c1 := ch_cell h 1 rfl
  have c2 := ch_cell h 2 rfl
  have c3 := ch_cell h 3 rfl
  have c4 := ch_cell h 4 rfl
  have c5 := ch_cell h 5 rfl
  have c6 := ch_cell h 6 rfl
  have c7 := ch_cell h 7 rfl
  have c8 := ch_cell h 8 rfl
  have c9 := ch_cell h 9 rfl
  clear h
  by_cases hp0 : p < 0
  · have d1 : decide (p < 0) = true := decide_eq_true hp0
    have hr := Lib.hid (show Ch.setN p s = 0 from Ch.setN_off (by omega))
    go_enter Tryd.func24, Tryd.ntmps24
    go_wp2
    go_ret
    exact ⟨by rw [hr.out]; rfl, rfl⟩
  by_cases hp5 : 5 ≤ p
  · have d1 : decide (p < 0) = false := decide_eq_false hp0
    have d2 : decide (5 ≤ p) = true := decide_eq_true hp5
    have hr := Lib.hid (show Ch.setN p s = 0 from Ch.setN_off (by omega))
    go_enter Tryd.func24, Tryd.ntmps24
    go_wp2
    go_ret
    exact ⟨by rw [hr.out]; rfl, rfl⟩
  have d1 : decide (p < 0) = false := decide_eq_false hp0
  have d2 : decide (5 ≤ p) = false := decide_eq_false hp5
  by_cases hs0 : s < 0
  · have d3 : decide (s < 0) = true := decide_eq_true hs0
    have hr := Lib.hid (show Ch.setN p s = 0 by unfold Ch.setN; rw [if_neg (by omega), if_neg (by omega)])
    go_enter Tryd.func24, Tryd.ntmps24
    go_wp2
    go_ret
    exact ⟨by rw [hr.out]; rfl, rfl⟩
  by_cases hs2 : 2 ≤ s
  · have d3 : decide (s < 0) = false := decide_eq_false hs0
    have d4 : decide (2 ≤ s) = true := decide_eq_true hs2
    have hr := Lib.hid (show Ch.setN p s = 0 by unfold Ch.setN; rw [if_neg (by omega), if_neg (by omega)])
    go_enter Tryd.func24, Tryd.ntmps24
    go_wp2
    go_ret
    exact ⟨by rw [hr.out]; rfl, rfl⟩
  clear d1 d2
  have hp : p = 0 ∨ p = 1 ∨ p = 2 ∨ p = 3 ∨ p = 4 := by omega
  have hs : s = 0 ∨ s = 1 := by omega
  rcases hp with rfl | rfl | rfl | rfl | rfl <;> rcases hs with rfl | rfl
  all_goals
    go_enter Tryd.func24, Tryd.ntmps24
    go_wp2
    go_ret
    exact ⟨rfl, rfl⟩

/-- does the point at a byte part two nodes -/
theorem chparts_calls (l : List UInt8) (k : Nat) (w : World) (hl : l.length ≤ maxLen) (hk : k < l.length) :
    Calls Tryd.prog 39 #[.string (str l), .int .i64 (k : Nat)] w fun e w' => e = .returned (.bool (Ch.mid l k)) ∧ w = w' := by
  unfold maxLen at hl
  have hsz := str_size l
  by_cases h0 : 0 < k
  · have d0 : decide ((0 : Int) < (k : Int)) = true := by simp; omega
    have d0' : decide (0 < k) = true := by simp; omega
    by_cases h1 : k + 1 < l.length
    · have d1 : decide ((k : Int) < (l.length : Int) - 1) = true := by simp; omega
      have hat : k - 1 < (str l).size := by rw [hsz]; omega
      have hm : Ch.mid l k = !decide (((str l)[k - 1].toNat : Int) = 46) := by
        unfold Ch.mid
        rw [decide_eq_true h0, decide_eq_true h1, List.getD_eq_getElem?_getD, List.getElem?_eq_getElem (by omega)]
        simp only [Bool.true_and, Option.getD_some]
        congr 1
        rw [decide_eq_decide]
        show (l[k - 1].toNat = 46) ↔ ((l[k - 1].toNat : Int) = 46)
        omega
      have HM := Lib.hid hm
      clear hm
      have e1 : (k : Int) - 1 = ((k - 1 : Nat) : Int) := by omega
      obtain ⟨j, rfl⟩ : ∃ j, k = j + 1 := ⟨k - 1, by omega⟩
      go_enter Tryd.func39, Tryd.ntmps39
      go_wp2
      go_ret
      exact ⟨by rw [HM.out]; first | rfl | simp, rfl⟩
    · have d1 : decide ((k : Int) < (l.length : Int) - 1) = false := by simp; omega
      have HM := Lib.hid (show Ch.mid l k = false by unfold Ch.mid; rw [decide_eq_false h1]; simp)
      go_enter Tryd.func39, Tryd.ntmps39
      go_wp2
      go_ret
      exact ⟨by rw [HM.out]; rfl, rfl⟩
  · have d0 : decide ((0 : Int) < (k : Int)) = false := by simp; omega
    have d0' : decide (0 < k) = false := by simp; omega
    have HM := Lib.hid (show Ch.mid l k = false by unfold Ch.mid; rw [decide_eq_false h0]; simp)
    go_enter Tryd.func39, Tryd.ntmps39
    go_wp2
    go_ret
    exact ⟨by rw [HM.out]; rfl, rfl⟩

end Go.Proofs.YtgdhfmcipaoapaaDoor
