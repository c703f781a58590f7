/- The walks of package charset's placed, Legal, Bad, Is. -/
import Derived.Test.YtgdhfmcipaoapaaDoorChA
set_option maxRecDepth 100000
set_option linter.unusedVariables false
set_option linter.unusedSimpArgs false
namespace Go.Proofs.YtgdhfmcipaoapaaDoor
open Go.RowKit

set_option maxHeartbeats 1000000 in
theorem chplaced_calls (p s : Int) (cl : Nat) (l : List UInt8) (k : Nat) (w : World) (hl : l.length ≤ maxLen) (hk : k < l.length) :
    Calls Tryd.prog 25 #[.int .i64 p, .int .i64 s, .int .u8 (cl : Nat), .string (str l), .int .i64 (k : Nat)] w fun e w' => e = .returned (.bool (Ch.plC p s cl (decide (0 < k)) (Ch.mid l k))) ∧ w = w' := by
  have hpc := chparts_calls l k
  by_cases h2 : cl = 2
  · subst h2
    by_cases hp : p = 1
    · have d1 : decide (p = 1) = true := decide_eq_true hp
      have hr := Lib.hid (show Ch.plC p s 2 (decide (0 < k)) (Ch.mid l k) = decide (0 < k) by unfold Ch.plC; rw [if_pos rfl, d1]; rfl)
      have hz : decide ((0 : Int) < (k : Int)) = decide (0 < k) := by rw [decide_eq_decide]; omega
      go_enter Tryd.func25, Tryd.ntmps25
      go_wp2
      go_ret
      exact ⟨by rw [hr.out]; simp, rfl⟩
    · have d1 : decide (p = 1) = false := decide_eq_false hp
      have hr := Lib.hid (show Ch.plC p s 2 (decide (0 < k)) (Ch.mid l k) = true by unfold Ch.plC; rw [if_pos rfl, d1]; rfl)
      go_enter Tryd.func25, Tryd.ntmps25
      go_wp2
      go_ret
      exact ⟨by rw [hr.out]; rfl, rfl⟩
  by_cases h6 : cl = 64
  · subst h6
    by_cases hp : s = 0
    · have d1 : decide (s = 0) = true := decide_eq_true hp
      have hr := Lib.hid (show Ch.plC p s 64 (decide (0 < k)) (Ch.mid l k) = decide (0 < k) by unfold Ch.plC; rw [if_neg (by decide), if_pos rfl, d1]; rfl)
      go_enter Tryd.func25, Tryd.ntmps25
      go_wp2
      go_ret
      exact ⟨by rw [hr.out]; simp, rfl⟩
    · have d1 : decide (s = 0) = false := decide_eq_false hp
      have hr := Lib.hid (show Ch.plC p s 64 (decide (0 < k)) (Ch.mid l k) = true by unfold Ch.plC; rw [if_neg (by decide), if_pos rfl, d1]; rfl)
      go_enter Tryd.func25, Tryd.ntmps25
      go_wp2
      go_ret
      exact ⟨by rw [hr.out]; rfl, rfl⟩
  by_cases h3 : cl = 32
  · subst h3
    by_cases hp : p = 3
    · have d1 : decide (p = 3) = true := decide_eq_true hp
      have hr := Lib.hid (show Ch.plC p s 32 (decide (0 < k)) (Ch.mid l k) = Ch.mid l k by unfold Ch.plC; rw [if_neg (by decide), if_neg (by decide), if_pos rfl, d1]; rfl)
      go_enter Tryd.func25, Tryd.ntmps25
      go_wp2_with (go_at_call 39; refine (hpc _ hl hk).mono ?_; rintro e w1 ⟨rfl, rfl⟩)
      go_ret
      exact ⟨by rw [hr.out]; rfl, rfl⟩
    · have d1 : decide (p = 3) = false := decide_eq_false hp
      have hr := Lib.hid (show Ch.plC p s 32 (decide (0 < k)) (Ch.mid l k) = true by unfold Ch.plC; rw [if_neg (by decide), if_neg (by decide), if_pos rfl, d1]; rfl)
      go_enter Tryd.func25, Tryd.ntmps25
      go_wp2
      go_ret
      exact ⟨by rw [hr.out]; rfl, rfl⟩
  have d2 : decide ((cl : Int) = 2) = false := by simp; omega
  have d6 : decide ((cl : Int) = 64) = false := by simp; omega
  have d3 : decide ((cl : Int) = 32) = false := by simp; omega
  have n2 : ¬ (cl : Int) = 2 := by omega
  have n6 : ¬ (cl : Int) = 64 := by omega
  have n3 : ¬ (cl : Int) = 32 := by omega
  have hr := Lib.hid (show Ch.plC p s cl (decide (0 < k)) (Ch.mid l k) = true by unfold Ch.plC; rw [if_neg h2, if_neg h6, if_neg h3])
  go_enter Tryd.func25, Tryd.ntmps25
  go_wp2
  go_ret
  exact ⟨by rw [hr.out]; rfl, rfl⟩

theorem and_u8 (a b : Nat) (ha : a < 256) (hb : b < 256) : bits .and .u8 (a : Int) (b : Int) = ((a &&& b : Nat) : Int) := by
  have ha' : a % 2 ^ IntKind.u8.bits = a := Nat.mod_eq_of_lt ha
  have hb' : b % 2 ^ IntKind.u8.bits = b := Nat.mod_eq_of_lt hb
  simp only [bits, BitVec.ofInt_natCast, BitVec.toNat_and, BitVec.toNat_ofNat, ha', hb']
  have := Nat.and_lt_two_pow (n := 8) a hb
  unfold IntKind.wrap
  simp [IntKind.signed, IntKind.bits]
  omega

set_option maxHeartbeats 1000000 in
theorem chlegal_calls (p s : Int) (l : List UInt8) (i : Int) (w : World) (hl : l.length ≤ maxLen) (hT : ChT w) :
    Calls Tryd.prog 18 #[.int .i64 p, .int .i64 s, .string (str l), .int .i64 i] w fun e w' => e = .returned (.bool (Ch.legI p s l i)) ∧ Below w.heap.size w w' := by
  have hl' := hl
  unfold maxLen at hl'
  have hsz := str_size l
  by_cases h0 : i < 0
  · have d0 : decide (i < 0) = true := decide_eq_true h0
    have hr := Lib.hid (show Ch.legI p s l i = false by unfold Ch.legI; rw [decide_eq_false (by omega)]; rfl)
    go_enter Tryd.func18, Tryd.ntmps18
    go_wp2
    go_ret
    exact ⟨by rw [hr.out]; rfl, Below.refl _ _⟩
  obtain ⟨k, rfl⟩ : ∃ k : Nat, i = k := ⟨i.toNat, by omega⟩
  have d0 : decide ((k : Int) < 0) = false := decide_eq_false h0
  by_cases h1 : l.length ≤ k
  · have d1 : decide ((l.length : Int) ≤ (k : Int)) = true := by simp; omega
    have d1' : decide (l.length ≤ k) = true := decide_eq_true h1
    have hr := Lib.hid (show Ch.legI p s l k = false by rw [Ch.legI_at, Ch.leg_out h1])
    go_enter Tryd.func18, Tryd.ntmps18
    go_wp2
    go_ret
    exact ⟨by rw [hr.out]; rfl, Below.refl _ _⟩
  have hk : k < l.length := by omega
  have hk2 : k < (str l).size := by rw [hsz]; exact hk
  have d1 : decide ((l.length : Int) ≤ (k : Int)) = false := by simp; omega
  have d1' : decide (l.length ≤ k) = false := decide_eq_false h1
  have hcl := chclass_calls (str l)[k] w hT
  have hst := chset_calls p s
  have hpl := fun W => chplaced_calls p s (Ch.cls (str l)[k]) l k W hl hk
  have hlg : Ch.legI p s l k = (decide (Ch.setN p s &&& Ch.cls (str l)[k] ≠ 0) && Ch.plC p s (Ch.cls (str l)[k]) (decide (0 < k)) (Ch.mid l k)) := by
    rw [Ch.legI_at, Ch.leg_at hk, ← Ch.cod_leg]; rfl
  have hand := and_u8 (Ch.setN p s) (Ch.cls (str l)[k]) (Ch.setN_lt p s) (Ch.cls_lt _)
  generalize Ch.plC p s (Ch.cls (str l)[k]) (decide (0 < k)) (Ch.mid l k) = r at *
  have HL := Lib.hid hlg
  clear hlg
  generalize Ch.cls (str l)[k] = cl at *
  generalize Ch.setN p s = st at *
  obtain ⟨z, hbz⟩ : ∃ z, bits .and .u8 (st : Int) (cl : Int) = z := ⟨_, rfl⟩
  rw [hbz] at hand
  by_cases hz : st &&& cl = 0
  · have hz0 : z = 0 := by rw [hand, hz]; rfl
    subst hz0
    have hr := Lib.hid (show Ch.legI p s l k = false by rw [HL.out, decide_eq_false (fun h => h hz)]; rfl)
    clear hand
    go_enter Tryd.func18, Tryd.ntmps18
    go_wp2_with fail
    refine hcl.mono ?_; rintro e w1 ⟨rfl, b1⟩
    go_wp2_with fail
    refine (hst w1 (hT.below b1)).mono ?_; rintro e w2 ⟨rfl, rfl⟩
    go_wp2
    go_ret
    exact ⟨by rw [hr.out]; rfl, b1⟩
  · have hz0 : ¬ z = 0 := by rw [hand]; omega
    have dz : decide (z = 0) = false := decide_eq_false hz0
    have hr := Lib.hid (show Ch.legI p s l k = r by rw [HL.out, decide_eq_true hz]; rfl)
    clear hand
    go_enter Tryd.func18, Tryd.ntmps18
    go_wp2_with fail
    refine hcl.mono ?_; rintro e w1 ⟨rfl, b1⟩
    go_wp2_with fail
    refine (hst w1 (hT.below b1)).mono ?_; rintro e w2 ⟨rfl, rfl⟩
    go_wp2_with fail
    refine (hpl _).mono ?_; rintro e w2 ⟨rfl, rfl⟩
    go_wp2
    go_ret
    have hzn : (z != 0) = true := by simp [hz0]
    exact ⟨by rw [hr.out]; show Ending.returned (.bool (z != 0 && r)) = _; rw [hzn]; rfl, b1⟩

set_option maxHeartbeats 1000000 in
theorem chbad_calls (p s : Int) (l : List UInt8) (w : World) (hl : l.length ≤ maxLen) (hT : ChT w) :
    Calls Tryd.prog 13 #[.int .i64 p, .int .i64 s, .string (str l)] w fun e w' => e = .returned (.int .i64 (Ch.bad p s l)) ∧ Below w.heap.size w w' := by
  have hl' := hl
  unfold maxLen at hl'
  have hsz := str_size l
  go_enter Tryd.func13, Tryd.ntmps13
  go_wp2_with fail
  go_loopw [10] (fun v wr => ∃ k : Nat, k ≤ l.length ∧ Hid (Ch.bad p s l = Ch.badGo p s l (l.length - k) k) ∧ v = .int .i64 (k : Nat) ∧ Below w.heap.size w wr) (fun v _ => l.length - (intOf v).toNat)
  case atStart => exact ⟨0, by omega, rfl, rfl, Below.refl _ _⟩
  case round =>
    obtain ⟨k, hk, H, rfl, hb⟩ := hrel
    by_cases h : k < l.length
    · have hc := chlegal_calls p s l (k : Int) wr hl (hT.below hb)
      rw [Ch.legI_at] at hc
      have hB := Lib.hid (show Ch.badGo p s l (l.length - k) k = if Ch.leg p s l k then Ch.badGo p s l (l.length - (k + 1)) (k + 1) else (k : Int) by
        rw [show l.length - k = (l.length - (k + 1)) + 1 by omega]; rfl)
      cases hg : Ch.leg p s l k
      · have hr := Lib.hid (show Ch.bad p s l = (k : Int) by rw [H.out, hB.out, hg]; rfl)
        rw [hg] at hc
        go_wp2_with fail
        refine hc.mono ?_; rintro e w1 ⟨rfl, b1⟩
        go_wp2
        go_ret
        exact ⟨by rw [hr.out]; rfl, trans9 hb b1⟩
      · have hr := Lib.hid (show Ch.bad p s l = Ch.badGo p s l (l.length - (k + 1)) (k + 1) by rw [H.out, hB.out, hg]; rfl)
        rw [hg] at hc
        go_wp2_with fail
        refine hc.mono ?_; rintro e w1 ⟨rfl, b1⟩
        go_wp2
        go_roundw
        case rel => exact ⟨k + 1, h, hr.out, by go_num, trans9 hb b1⟩
        case measure => simp [intOf]; omega
    · have hr := Lib.hid (show Ch.bad p s l = -1 by rw [H.out, show l.length - k = 0 by omega]; rfl)
      go_wp2
      go_ret
      exact ⟨by rw [hr.out]; rfl, hb⟩

end Go.Proofs.YtgdhfmcipaoapaaDoor
