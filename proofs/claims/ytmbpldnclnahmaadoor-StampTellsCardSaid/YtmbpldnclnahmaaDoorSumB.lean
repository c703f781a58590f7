/- The walks of package sum's digits: join, compare, plus, minus. -/
import Derived.Test.YtmbpldnclnahmaaDoorSumA
import Derived.Deep.QuietTactic
import Derived.BigQuiet
set_option linter.unusedVariables false
set_option linter.unusedSimpArgs false
namespace Go.Proofs.YtmbpldnclnahmaaDoor
open Go.RowKit Dc

set_option maxRecDepth 100000 in
set_option maxHeartbeats 4000000 in
theorem sjoin_calls (x : Nat) (hx : x < 10 ^ 55) (w : World) :
    Calls Tryd.prog 44 #[.agg (sA (dgt x))] w fun e w' => e = .returned (joinV x) ∧ Below w.heap.size w w' := by
  have b1 := (Below.refl w.heap.size w).alloc (Nat.le_refl _) (.cells (sA (dgt x)) 63)
  have d1 := SAt.new w (dgt x)
  have hs := sA_size (dgt x)
  have hone := sA_one (dgt x)
  have B1 := Lib.hid b1
  have D1 := Lib.hid d1
  have Hx := Lib.hid hx
  clear b1 d1 hx
  go_enter Tryd.func44, Tryd.ntmps44
  go_wp2_with fail
  generalize w.alloc (.cells (sA (dgt x)) 63) = W at *
  clear hs hone
  go_loop [10] (fun s10 => ∃ j : Nat, j ≤ 36 ∧ s10 = .int .i64 (j : Nat) ∧ Hid (∀ i, 19 ≤ i → i < 19 + j → dgt x i = 0)) (fun s10 => 36 - (intOf s10).toNat)
  case atStart => exact ⟨0, by omega, rfl, fun i h1 h2 => by omega⟩
  case round =>
    obtain ⟨j, hj, rfl, H⟩ := hrel
    by_cases h36 : j < 36
    · have hc := D1.out.cell (19 + j) (by omega)
      by_cases h0 : dgt x (19 + j) = 0
      · have hstep : Hid (∀ i, 19 ≤ i → i < 19 + (j + 1) → dgt x i = 0) := fun i h1 h2 => by
          by_cases h : i = 19 + j
          · rw [h]; exact h0
          · exact H.out i h1 (by omega)
        rw [h0] at hc
        clear h0 H
        go_wp2_with fail
        go_round
        case rel => exact ⟨j + 1, by omega, by go_num, hstep.out⟩
        case measure => simp [intOf]; omega
      · have hbig : Hid (¬ x ≤ big) := fun e => by
          unfold big at e
          exact h0 (dgt_of_le (i := 19) (by omega) (by omega))
        have hd : (0 : Int) < ((dgt x (19 + j) : Nat) : Int) := by omega
        clear h0 H
        generalize dgt x (19 + j) = d at *
        go_wp2_with fail
        go_ret2
        exact ⟨by rw [joinV_gt hbig.out]; rfl, B1.out⟩
    · obtain rfl : j = 36 := by omega
      have hlow : Hid (x < 10 ^ 19) := lt_pow_of_dgts (k := 19) 36 (by have := Hx.out; simpa using this) (fun i h1 h2 => H.out i h1 h2)
      rw [show ((36 : Nat) : Int) = 36 from rfl]
      clear H
      go_wp2_with fail
      go_loop [6, 7] (fun s6 s7 => ∃ j t : Nat, j ≤ 19 ∧ s7 = .int .i64 ((j : Int) - 1) ∧ s6 = .int .u64 (t : Nat) ∧ Hid (t = x / 10 ^ j)) (fun _ s7 => (intOf s7 + 1).toNat)
      case atStart => exact ⟨19, 0, Nat.le_refl _, rfl, rfl, (Nat.div_eq_of_lt hlow.out).symm⟩
      case round =>
        obtain ⟨j, t, hj, rfl, rfl, H⟩ := hrel
        rcases j with _ | j
        · have ht : t = x := by have := H.out; simpa using this
          have hb : t < 10000000000000000000 := by have := hlow.out; omega
          have Ht := Lib.hid ht
          clear ht H
          by_cases h : t ≤ 9223372036854775807
          · go_wp2_with fail
            go_ret2
            exact ⟨by rw [← Ht.out, joinV_le (show t ≤ big from h)]; rfl, B1.out⟩
          · go_wp2_with fail
            go_ret2
            exact ⟨by rw [← Ht.out, joinV_gt (show ¬ t ≤ big from h)]; rfl, B1.out⟩
        · have e : ((j + 1 : Nat) : Int) - 1 = (j : Int) := by omega
          rw [e]
          have hc := D1.out.cell j (by omega)
          have hstep : x / 10 ^ j = 10 * t + dgt x j := by rw [H.out]; exact div_step x j
          have hle : x / 10 ^ j ≤ x := Nat.div_le_self _ _
          have hb : 10 * t + dgt x j < 10000000000000000000 := by have := hlow.out; omega
          have Hs := Lib.hid hstep
          clear hstep hle e H
          generalize dgt x j = d at *
          go_wp2_with fail
          go_round
          case rel => exact ⟨j, 10 * t + d, by omega, rfl, by go_num, Hs.out.symm⟩
          case measure => simp [intOf]

end Go.Proofs.YtmbpldnclnahmaaDoor
