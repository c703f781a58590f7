/- The texts ChA, ChB, one behind the other. -/
import Derived.Test.YtgoibhbmndpgpaaGreatDoorChP
import Derived.Test.YtgoibhbmndpgpaaGreatDoorGrd
import Derived.Deep.RegionHeld3

/- The walks of package charset's class, set, parts, placed, Legal. -/
set_option maxRecDepth 100000
set_option linter.unusedVariables false
set_option linter.unusedSimpArgs false
namespace Go.Proofs.YtgoibhbmndpgpaaGreatDoor
open Go.RowKit

/-- what the table of spans holds -/
def chSpans : Array Value := #[.int .u8 32, .int .u8 34, .int .u8 128, .int .u8 35, .int .u8 35, .int .u8 64, .int .u8 36, .int .u8 44, .int .u8 128, .int .u8 45, .int .u8 45, .int .u8 8, .int .u8 46, .int .u8 46, .int .u8 32, .int .u8 47, .int .u8 47, .int .u8 128,
  .int .u8 48, .int .u8 57, .int .u8 2, .int .u8 58, .int .u8 58, .int .u8 16, .int .u8 59, .int .u8 64, .int .u8 128, .int .u8 65, .int .u8 90, .int .u8 1, .int .u8 91, .int .u8 91, .int .u8 128, .int .u8 93, .int .u8 94, .int .u8 128,
  .int .u8 95, .int .u8 95, .int .u8 4, .int .u8 96, .int .u8 96, .int .u8 128, .int .u8 97, .int .u8 122, .int .u8 1, .int .u8 123, .int .u8 126, .int .u8 128]
/-- the package's tables lie in the world -/
structure ChT (w : World) : Prop where
  spans : ∃ t fr, w.heap[3]? = some (.cells chSpans t fr)
  sets : ∃ t fr, w.heap[4]? = some (.cells #[.int .u8 0, .int .u8 0, .int .u8 23, .int .u8 7, .int .u8 255, .int .u8 255, .int .u8 63, .int .u8 31, .int .u8 47, .int .u8 47] t fr)
theorem ChT.below {w w' : World} (h : ChT w) (hb : Below w.heap.size w w') : ChT w' := by
  obtain ⟨⟨t, fr, h1⟩, ⟨t2, fr2, h2⟩⟩ := h
  exact ⟨⟨t, fr, by rw [hb.block _ (Array.getElem?_eq_some_iff.1 h1).1]; exact h1⟩, ⟨t2, fr2, by rw [hb.block _ (Array.getElem?_eq_some_iff.1 h2).1]; exact h2⟩⟩
theorem ch_cell {w : World} {g : Nat} {cs : Array Value} {t : TypeId} {fr : Nat × Nat} (h : w.heap[g]? = some (.cells cs t fr)) (j : Nat) {v : Value} (hv : cs[j]? = some v) : w.cell? ⟨g, j, none⟩ = some v := by
  rw [cell_of_row w g j cs t fr h]; exact hv

theorem ch_span (k : Nat) (hk : k < 16) : ∃ lo hi cl : Nat, Ch.spans.drop k = (lo, hi, cl) :: Ch.spans.drop (k + 1) ∧
    ∀ w : World, (Instr.index 127 (.agg chSpans) (.int .i64 k)).run Tryz.prog w = .ok (.agg #[.int .u8 (lo : Nat), .int .u8 (hi : Nat), .int .u8 (cl : Nat)]) w := by
  match k, hk with
  | 0, _ => exact ⟨32, 34, 128, rfl, fun _ => by kernel_rfl⟩
  | 1, _ => exact ⟨35, 35, 64, rfl, fun _ => by kernel_rfl⟩
  | 2, _ => exact ⟨36, 44, 128, rfl, fun _ => by kernel_rfl⟩
  | 3, _ => exact ⟨45, 45, 8, rfl, fun _ => by kernel_rfl⟩
  | 4, _ => exact ⟨46, 46, 32, rfl, fun _ => by kernel_rfl⟩
  | 5, _ => exact ⟨47, 47, 128, rfl, fun _ => by kernel_rfl⟩
  | 6, _ => exact ⟨48, 57, 2, rfl, fun _ => by kernel_rfl⟩
  | 7, _ => exact ⟨58, 58, 16, rfl, fun _ => by kernel_rfl⟩
  | 8, _ => exact ⟨59, 64, 128, rfl, fun _ => by kernel_rfl⟩
  | 9, _ => exact ⟨65, 90, 1, rfl, fun _ => by kernel_rfl⟩
  | 10, _ => exact ⟨91, 91, 128, rfl, fun _ => by kernel_rfl⟩
  | 11, _ => exact ⟨93, 94, 128, rfl, fun _ => by kernel_rfl⟩
  | 12, _ => exact ⟨95, 95, 4, rfl, fun _ => by kernel_rfl⟩
  | 13, _ => exact ⟨96, 96, 128, rfl, fun _ => by kernel_rfl⟩
  | 14, _ => exact ⟨97, 122, 1, rfl, fun _ => by kernel_rfl⟩
  | 15, _ => exact ⟨123, 126, 128, rfl, fun _ => by kernel_rfl⟩
  | k + 16, h => exact absurd h (by omega)

set_option maxHeartbeats 1000000 in
theorem chclass_calls (c : UInt8) (w : World) (hT : ChT w) :
    Calls Tryz.prog 95 #[.int .u8 (c.toNat : Int)] w fun e w' => e = .returned (.int .u8 (Ch.cls c : Nat)) ∧ Below w.heap.size w w' := by
  obtain ⟨⟨tt, fr, hsh⟩, _⟩ := hT
  have hsz : 3 < w.heap.size := (Array.getElem?_eq_some_iff.1 hsh).1
  have hc : c.toNat < 256 := c.toNat_lt
  have hcl : Ch.cls c = Ch.clsF (Ch.spans.drop 0) c.toNat := rfl
  generalize Ch.cls c = C at *
  generalize c.toNat = n at *
  go_enter Tryz.func95, Tryz.ntmps95
  go_wp2_with (refine wpList_load_row rfl 127 _ rfl 3 rfl tt chSpans fr _ hsh Tryz.underlying127 rfl (by kernel_rfl) ?_)
  go_loopw [6] (fun v wr => ∃ k : Nat, k ≤ 16 ∧ C = Ch.clsF (Ch.spans.drop k) n ∧ v = .int .i64 k ∧ Below w.heap.size w wr) (fun v _ => (16 - intOf v).toNat)
  case atStart => exact ⟨0, by omega, hcl, rfl, Below.refl _ _⟩
  case round =>
    obtain ⟨k, hk, hC, rfl, hb⟩ := hrel
    have HC := Lib.hid hC
    clear hC hcl
    have hz : w.heap.size ≤ wr.heap.size := hb.size
    by_cases hlt : k < 16
    · obtain ⟨lo, hi, cl, hdr, hidx⟩ := ch_span k hlt
      have HD := Lib.hid hdr
      clear hdr
      by_cases h1 : n ≤ hi
      · have d1 : decide ((n : Int) ≤ (hi : Int)) = true := by simp; omega
        have d1' : decide (n ≤ hi) = true := by simp; omega
        by_cases h2 : n < lo
        · have d2 : decide ((n : Int) < (lo : Int)) = true := by simp; omega
          have d2' : decide (n < lo) = true := by simp; omega
          have HR := Lib.hid (show C = 0 by rw [HC.out, HD.out]; simp only [Ch.clsF]; rw [if_pos h1, if_pos h2])
          go_wp2
          go_ret
          exact ⟨by rw [HR.out]; rfl, hb.alloc hz _⟩
        · have d2 : decide ((n : Int) < (lo : Int)) = false := by simp; omega
          have d2' : decide (n < lo) = false := by simp; omega
          have HR := Lib.hid (show C = cl by rw [HC.out, HD.out]; simp only [Ch.clsF]; rw [if_pos h1, if_neg h2])
          go_wp2
          go_ret
          exact ⟨by rw [HR.out]; rfl, hb.alloc hz _⟩
      · have d1 : decide ((n : Int) ≤ (hi : Int)) = false := by simp; omega
        have d1' : decide (n ≤ hi) = false := by simp; omega
        have HR := Lib.hid (show C = Ch.clsF (Ch.spans.drop (k + 1)) n by rw [HC.out, HD.out]; simp only [Ch.clsF]; rw [if_neg h1])
        go_wp2
        go_roundw
        case rel => exact ⟨k + 1, by omega, HR.out, by go_num, hb.alloc hz _⟩
        case measure => simp [intOf]; omega
    · go_wp2
      go_ret
      exact ⟨by rw [HC.out, show k = 16 by omega]; rfl, hb⟩

set_option maxHeartbeats 1000000 in
theorem chset_calls (p s : Int) (w : World) (hT : ChT w) :
    Calls Tryz.prog 96 #[.int .i64 p, .int .i64 s] w fun e w' => e = .returned (.int .u8 (Ch.setN p s : Nat)) ∧ w = w' := by
  obtain ⟨_, ⟨tt, fr, h⟩⟩ := hT
  have c0 := ch_cell h 0 rfl
  have c1 := ch_cell h 1 rfl
  have c2 := ch_cell h 2 rfl
  have c3 := ch_cell h 3 rfl
  have c4 := ch_cell h 4 rfl
  have c5 := ch_cell h 5 rfl
  have c6 := ch_cell h 6 rfl
  have c7 := ch_cell h 7 rfl
  have c8 := ch_cell h 8 rfl
  have c9 := ch_cell h 9 rfl
  clear h
  by_cases hp0 : p < 0
  · have d1 : decide (p < 0) = true := decide_eq_true hp0
    have hr := Lib.hid (show Ch.setN p s = 0 from Ch.setN_off (by omega))
    go_enter Tryz.func96, Tryz.ntmps96
    go_wp2
    go_ret
    exact ⟨by rw [hr.out]; rfl, rfl⟩
  by_cases hp5 : 5 ≤ p
  · have d1 : decide (p < 0) = false := decide_eq_false hp0
    have d2 : decide (5 ≤ p) = true := decide_eq_true hp5
    have hr := Lib.hid (show Ch.setN p s = 0 from Ch.setN_off (by omega))
    go_enter Tryz.func96, Tryz.ntmps96
    go_wp2
    go_ret
    exact ⟨by rw [hr.out]; rfl, rfl⟩
  have d1 : decide (p < 0) = false := decide_eq_false hp0
  have d2 : decide (5 ≤ p) = false := decide_eq_false hp5
  by_cases hs0 : s < 0
  · have d3 : decide (s < 0) = true := decide_eq_true hs0
    have hr := Lib.hid (show Ch.setN p s = 0 by unfold Ch.setN; rw [if_neg (by omega), if_neg (by omega)])
    go_enter Tryz.func96, Tryz.ntmps96
    go_wp2
    go_ret
    exact ⟨by rw [hr.out]; rfl, rfl⟩
  by_cases hs2 : 2 ≤ s
  · have d3 : decide (s < 0) = false := decide_eq_false hs0
    have d4 : decide (2 ≤ s) = true := decide_eq_true hs2
    have hr := Lib.hid (show Ch.setN p s = 0 by unfold Ch.setN; rw [if_neg (by omega), if_neg (by omega)])
    go_enter Tryz.func96, Tryz.ntmps96
    go_wp2
    go_ret
    exact ⟨by rw [hr.out]; rfl, rfl⟩
  clear d1 d2
  have hp : p = 0 ∨ p = 1 ∨ p = 2 ∨ p = 3 ∨ p = 4 := by omega
  have hs : s = 0 ∨ s = 1 := by omega
  rcases hp with rfl | rfl | rfl | rfl | rfl <;> rcases hs with rfl | rfl
  all_goals
    go_enter Tryz.func96, Tryz.ntmps96
    go_wp2
    go_ret
    exact ⟨rfl, rfl⟩

/-- does the point at a byte part two nodes -/
theorem chparts_calls (l : List UInt8) (k : Nat) (w : World) (hl : l.length ≤ maxLen) (hk : k < l.length) :
    Calls Tryz.prog 117 #[.string (str l), .int .i64 (k : Nat)] w fun e w' => e = .returned (.bool (Ch.mid l k)) ∧ w = w' := by
  unfold maxLen at hl
  have hsz := str_size l
  by_cases h0 : 0 < k
  · have d0 : decide ((0 : Int) < (k : Int)) = true := by simp; omega
    have d0' : decide (0 < k) = true := by simp; omega
    by_cases h1 : k + 1 < l.length
    · have d1 : decide ((k : Int) < (l.length : Int) - 1) = true := by simp; omega
      have hat : k - 1 < (str l).size := by rw [hsz]; omega
      have hm : Ch.mid l k = !decide (((str l)[k - 1].toNat : Int) = 46) := by
        unfold Ch.mid
        rw [decide_eq_true h0, decide_eq_true h1, List.getD_eq_getElem?_getD, List.getElem?_eq_getElem (by omega)]
        simp only [Bool.true_and, Option.getD_some]
        congr 1
        rw [decide_eq_decide]
        show (l[k - 1].toNat = 46) ↔ ((l[k - 1].toNat : Int) = 46)
        omega
      have HM := Lib.hid hm
      clear hm
      have e1 : (k : Int) - 1 = ((k - 1 : Nat) : Int) := by omega
      obtain ⟨j, rfl⟩ : ∃ j, k = j + 1 := ⟨k - 1, by omega⟩
      go_enter Tryz.func117, Tryz.ntmps117
      go_wp2
      go_ret
      exact ⟨by rw [HM.out]; first | rfl | simp, rfl⟩
    · have d1 : decide ((k : Int) < (l.length : Int) - 1) = false := by simp; omega
      have HM := Lib.hid (show Ch.mid l k = false by unfold Ch.mid; rw [decide_eq_false h1]; simp)
      go_enter Tryz.func117, Tryz.ntmps117
      go_wp2
      go_ret
      exact ⟨by rw [HM.out]; rfl, rfl⟩
  · have d0 : decide ((0 : Int) < (k : Int)) = false := by simp; omega
    have d0' : decide (0 < k) = false := by simp; omega
    have HM := Lib.hid (show Ch.mid l k = false by unfold Ch.mid; rw [decide_eq_false h0]; simp)
    go_enter Tryz.func117, Tryz.ntmps117
    go_wp2
    go_ret
    exact ⟨by rw [HM.out]; rfl, rfl⟩

end Go.Proofs.YtgoibhbmndpgpaaGreatDoor

/- The walks of package charset's placed, Legal, Bad, Is. -/
set_option maxRecDepth 100000
set_option linter.unusedVariables false
set_option linter.unusedSimpArgs false
namespace Go.Proofs.YtgoibhbmndpgpaaGreatDoor
open Go.RowKit

set_option maxHeartbeats 1000000 in
theorem chplaced_calls (p s : Int) (cl : Nat) (l : List UInt8) (k : Nat) (w : World) (hl : l.length ≤ maxLen) (hk : k < l.length) :
    Calls Tryz.prog 97 #[.int .i64 p, .int .i64 s, .int .u8 (cl : Nat), .string (str l), .int .i64 (k : Nat)] w fun e w' => e = .returned (.bool (Ch.plC p s cl (decide (0 < k)) (Ch.mid l k))) ∧ w = w' := by
  have hpc := chparts_calls l k
  by_cases h2 : cl = 2
  · subst h2
    by_cases hp : p = 1
    · have d1 : decide (p = 1) = true := decide_eq_true hp
      have hr := Lib.hid (show Ch.plC p s 2 (decide (0 < k)) (Ch.mid l k) = decide (0 < k) by unfold Ch.plC; rw [if_pos rfl, d1]; rfl)
      have hz : decide ((0 : Int) < (k : Int)) = decide (0 < k) := by rw [decide_eq_decide]; omega
      go_enter Tryz.func97, Tryz.ntmps97
      go_wp2
      go_ret
      exact ⟨by rw [hr.out]; simp, rfl⟩
    · have d1 : decide (p = 1) = false := decide_eq_false hp
      have hr := Lib.hid (show Ch.plC p s 2 (decide (0 < k)) (Ch.mid l k) = true by unfold Ch.plC; rw [if_pos rfl, d1]; rfl)
      go_enter Tryz.func97, Tryz.ntmps97
      go_wp2
      go_ret
      exact ⟨by rw [hr.out]; rfl, rfl⟩
  by_cases h6 : cl = 64
  · subst h6
    by_cases hp : s = 0
    · have d1 : decide (s = 0) = true := decide_eq_true hp
      have hr := Lib.hid (show Ch.plC p s 64 (decide (0 < k)) (Ch.mid l k) = decide (0 < k) by unfold Ch.plC; rw [if_neg (by decide), if_pos rfl, d1]; rfl)
      go_enter Tryz.func97, Tryz.ntmps97
      go_wp2
      go_ret
      exact ⟨by rw [hr.out]; simp, rfl⟩
    · have d1 : decide (s = 0) = false := decide_eq_false hp
      have hr := Lib.hid (show Ch.plC p s 64 (decide (0 < k)) (Ch.mid l k) = true by unfold Ch.plC; rw [if_neg (by decide), if_pos rfl, d1]; rfl)
      go_enter Tryz.func97, Tryz.ntmps97
      go_wp2
      go_ret
      exact ⟨by rw [hr.out]; rfl, rfl⟩
  by_cases h3 : cl = 32
  · subst h3
    by_cases hp : p = 3
    · have d1 : decide (p = 3) = true := decide_eq_true hp
      have hr := Lib.hid (show Ch.plC p s 32 (decide (0 < k)) (Ch.mid l k) = Ch.mid l k by unfold Ch.plC; rw [if_neg (by decide), if_neg (by decide), if_pos rfl, d1]; rfl)
      go_enter Tryz.func97, Tryz.ntmps97
      go_wp2_with (go_at_call 117; refine (hpc _ hl hk).mono ?_; rintro e w1 ⟨rfl, rfl⟩)
      go_ret
      exact ⟨by rw [hr.out]; rfl, rfl⟩
    · have d1 : decide (p = 3) = false := decide_eq_false hp
      have hr := Lib.hid (show Ch.plC p s 32 (decide (0 < k)) (Ch.mid l k) = true by unfold Ch.plC; rw [if_neg (by decide), if_neg (by decide), if_pos rfl, d1]; rfl)
      go_enter Tryz.func97, Tryz.ntmps97
      go_wp2
      go_ret
      exact ⟨by rw [hr.out]; rfl, rfl⟩
  have d2 : decide ((cl : Int) = 2) = false := by simp; omega
  have d6 : decide ((cl : Int) = 64) = false := by simp; omega
  have d3 : decide ((cl : Int) = 32) = false := by simp; omega
  have n2 : ¬ (cl : Int) = 2 := by omega
  have n6 : ¬ (cl : Int) = 64 := by omega
  have n3 : ¬ (cl : Int) = 32 := by omega
  have hr := Lib.hid (show Ch.plC p s cl (decide (0 < k)) (Ch.mid l k) = true by unfold Ch.plC; rw [if_neg h2, if_neg h6, if_neg h3])
  go_enter Tryz.func97, Tryz.ntmps97
  go_wp2
  go_ret
  exact ⟨by rw [hr.out]; rfl, rfl⟩

theorem and_u8 (a b : Nat) (ha : a < 256) (hb : b < 256) : bits .and .u8 (a : Int) (b : Int) = ((a &&& b : Nat) : Int) := by
  have ha' : a % 2 ^ IntKind.u8.bits = a := Nat.mod_eq_of_lt ha
  have hb' : b % 2 ^ IntKind.u8.bits = b := Nat.mod_eq_of_lt hb
  simp only [bits, BitVec.ofInt_natCast, BitVec.toNat_and, BitVec.toNat_ofNat, ha', hb']
  have := Nat.and_lt_two_pow (n := 8) a hb
  unfold IntKind.wrap
  simp [IntKind.signed, IntKind.bits]
  omega

set_option maxHeartbeats 1000000 in
theorem chlegal_calls (p s : Int) (l : List UInt8) (i : Int) (w : World) (hl : l.length ≤ maxLen) (hT : ChT w) :
    Calls Tryz.prog 75 #[.int .i64 p, .int .i64 s, .string (str l), .int .i64 i] w fun e w' => e = .returned (.bool (Ch.legI p s l i)) ∧ Below w.heap.size w w' := by
  have hl' := hl
  unfold maxLen at hl'
  have hsz := str_size l
  by_cases h0 : i < 0
  · have d0 : decide (i < 0) = true := decide_eq_true h0
    have hr := Lib.hid (show Ch.legI p s l i = false by unfold Ch.legI; rw [decide_eq_false (by omega)]; rfl)
    go_enter Tryz.func75, Tryz.ntmps75
    go_wp2
    go_ret
    exact ⟨by rw [hr.out]; rfl, Below.refl _ _⟩
  obtain ⟨k, rfl⟩ : ∃ k : Nat, i = k := ⟨i.toNat, by omega⟩
  have d0 : decide ((k : Int) < 0) = false := decide_eq_false h0
  by_cases h1 : l.length ≤ k
  · have d1 : decide ((l.length : Int) ≤ (k : Int)) = true := by simp; omega
    have d1' : decide (l.length ≤ k) = true := decide_eq_true h1
    have hr := Lib.hid (show Ch.legI p s l k = false by rw [Ch.legI_at, Ch.leg_out h1])
    go_enter Tryz.func75, Tryz.ntmps75
    go_wp2
    go_ret
    exact ⟨by rw [hr.out]; rfl, Below.refl _ _⟩
  have hk : k < l.length := by omega
  have hk2 : k < (str l).size := by rw [hsz]; exact hk
  have d1 : decide ((l.length : Int) ≤ (k : Int)) = false := by simp; omega
  have d1' : decide (l.length ≤ k) = false := decide_eq_false h1
  have hcl := chclass_calls (str l)[k] w hT
  have hst := chset_calls p s
  have hpl := fun W => chplaced_calls p s (Ch.cls (str l)[k]) l k W hl hk
  have hlg : Ch.legI p s l k = (decide (Ch.setN p s &&& Ch.cls (str l)[k] ≠ 0) && Ch.plC p s (Ch.cls (str l)[k]) (decide (0 < k)) (Ch.mid l k)) := by
    rw [Ch.legI_at, Ch.leg_at hk, ← Ch.cod_leg]; rfl
  have hand := and_u8 (Ch.setN p s) (Ch.cls (str l)[k]) (Ch.setN_lt p s) (Ch.cls_lt _)
  generalize Ch.plC p s (Ch.cls (str l)[k]) (decide (0 < k)) (Ch.mid l k) = r at *
  have HL := Lib.hid hlg
  clear hlg
  generalize Ch.cls (str l)[k] = cl at *
  generalize Ch.setN p s = st at *
  obtain ⟨z, hbz⟩ : ∃ z, bits .and .u8 (st : Int) (cl : Int) = z := ⟨_, rfl⟩
  rw [hbz] at hand
  by_cases hz : st &&& cl = 0
  · have hz0 : z = 0 := by rw [hand, hz]; rfl
    subst hz0
    have hr := Lib.hid (show Ch.legI p s l k = false by rw [HL.out, decide_eq_false (fun h => h hz)]; rfl)
    clear hand
    go_enter Tryz.func75, Tryz.ntmps75
    go_wp2_with fail
    refine hcl.mono ?_; rintro e w1 ⟨rfl, b1⟩
    go_wp2_with fail
    refine (hst w1 (hT.below b1)).mono ?_; rintro e w2 ⟨rfl, rfl⟩
    go_wp2
    go_ret
    exact ⟨by rw [hr.out]; rfl, b1⟩
  · have hz0 : ¬ z = 0 := by rw [hand]; omega
    have dz : decide (z = 0) = false := decide_eq_false hz0
    have hr := Lib.hid (show Ch.legI p s l k = r by rw [HL.out, decide_eq_true hz]; rfl)
    clear hand
    go_enter Tryz.func75, Tryz.ntmps75
    go_wp2_with fail
    refine hcl.mono ?_; rintro e w1 ⟨rfl, b1⟩
    go_wp2_with fail
    refine (hst w1 (hT.below b1)).mono ?_; rintro e w2 ⟨rfl, rfl⟩
    go_wp2_with fail
    refine (hpl _).mono ?_; rintro e w2 ⟨rfl, rfl⟩
    go_wp2
    go_ret
    have hzn : (z != 0) = true := by simp [hz0]
    exact ⟨by rw [hr.out]; show Ending.returned (.bool (z != 0 && r)) = _; rw [hzn]; rfl, b1⟩

set_option maxHeartbeats 1000000 in
theorem chbad_calls (p s : Int) (l : List UInt8) (w : World) (hl : l.length ≤ maxLen) (hT : ChT w) :
    Calls Tryz.prog 51 #[.int .i64 p, .int .i64 s, .string (str l)] w fun e w' => e = .returned (.int .i64 (Ch.bad p s l)) ∧ Below w.heap.size w w' := by
  have hl' := hl
  unfold maxLen at hl'
  have hsz := str_size l
  go_enter Tryz.func51, Tryz.ntmps51
  go_wp2_with fail
  go_loopw [10] (fun v wr => ∃ k : Nat, k ≤ l.length ∧ Hid (Ch.bad p s l = Ch.badGo p s l (l.length - k) k) ∧ v = .int .i64 (k : Nat) ∧ Below w.heap.size w wr) (fun v _ => l.length - (intOf v).toNat)
  case atStart => exact ⟨0, by omega, rfl, rfl, Below.refl _ _⟩
  case round =>
    obtain ⟨k, hk, H, rfl, hb⟩ := hrel
    by_cases h : k < l.length
    · have hc := chlegal_calls p s l (k : Int) wr hl (hT.below hb)
      rw [Ch.legI_at] at hc
      have hB := Lib.hid (show Ch.badGo p s l (l.length - k) k = if Ch.leg p s l k then Ch.badGo p s l (l.length - (k + 1)) (k + 1) else (k : Int) by
        rw [show l.length - k = (l.length - (k + 1)) + 1 by omega]; rfl)
      cases hg : Ch.leg p s l k
      · have hr := Lib.hid (show Ch.bad p s l = (k : Int) by rw [H.out, hB.out, hg]; rfl)
        rw [hg] at hc
        go_wp2_with fail
        refine hc.mono ?_; rintro e w1 ⟨rfl, b1⟩
        go_wp2
        go_ret
        exact ⟨by rw [hr.out]; rfl, trans9 hb b1⟩
      · have hr := Lib.hid (show Ch.bad p s l = Ch.badGo p s l (l.length - (k + 1)) (k + 1) by rw [H.out, hB.out, hg]; rfl)
        rw [hg] at hc
        go_wp2_with fail
        refine hc.mono ?_; rintro e w1 ⟨rfl, b1⟩
        go_wp2
        go_roundw
        case rel => exact ⟨k + 1, h, hr.out, by go_num, trans9 hb b1⟩
        case measure => simp [intOf]; omega
    · have hr := Lib.hid (show Ch.bad p s l = -1 by rw [H.out, show l.length - k = 0 by omega]; rfl)
      go_wp2
      go_ret
      exact ⟨by rw [hr.out]; rfl, hb⟩

set_option maxHeartbeats 1000000 in
theorem chis_calls (p s : Int) (l : List UInt8) (w : World) (hl : l.length ≤ maxLen) (hT : ChT w) :
    Calls Tryz.prog 33 #[.int .i64 p, .int .i64 s, .string (str l)] w fun e w' => e = .returned (.bool (Ch.isName p s l)) ∧ Below w.heap.size w w' := by
  have hsz := str_size l
  have hb := chbad_calls p s l w hl hT
  unfold maxLen at hl
  by_cases h1 : 0 < l.length
  · have d1 : decide ((0 : Int) < (l.length : Int)) = true := decide_eq_true (by omega)
    have d1' : decide (0 < l.length) = true := decide_eq_true h1
    by_cases h2 : l.length ≤ 60
    · have d2 : decide ((l.length : Int) ≤ 60) = true := by simp; omega
      have d2' : decide (l.length ≤ 60) = true := decide_eq_true h2
      have hr := Lib.hid (show Ch.isName p s l = decide (Ch.bad p s l < 0) by unfold Ch.isName; rw [decide_eq_true (show 1 ≤ l.length from h1), d2']; rfl)
      generalize Ch.bad p s l = z at *
      go_enter Tryz.func33, Tryz.ntmps33
      go_wp2_with fail
      refine hb.mono ?_; rintro e w1 ⟨rfl, b1⟩
      go_wp2
      go_ret
      exact ⟨by rw [hr.out]; rfl, b1⟩
    · have d2 : decide ((l.length : Int) ≤ 60) = false := by simp; omega
      have d2' : decide (l.length ≤ 60) = false := decide_eq_false h2
      have hr := Lib.hid (show Ch.isName p s l = false by unfold Ch.isName; rw [d2']; simp)
      go_enter Tryz.func33, Tryz.ntmps33
      go_wp2
      go_ret
      exact ⟨by rw [hr.out]; rfl, Below.refl _ _⟩
  · have d1 : decide ((0 : Int) < (l.length : Int)) = false := decide_eq_false (by omega)
    have d1' : decide (0 < l.length) = false := decide_eq_false h1
    have hr := Lib.hid (show Ch.isName p s l = false by unfold Ch.isName; rw [decide_eq_false (show ¬ 1 ≤ l.length by omega)]; rfl)
    go_enter Tryz.func33, Tryz.ntmps33
    go_wp2
    go_ret
    exact ⟨by rw [hr.out]; rfl, Below.refl _ _⟩

end Go.Proofs.YtgoibhbmndpgpaaGreatDoor
