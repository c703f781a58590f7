/- The walks of package sum's digits: join, compare, plus, minus. -/
import Derived.Test.YtpciohnnnpgpiaaSumA
import Derived.Deep.QuietTactic
import Derived.BigQuiet
set_option linter.unusedVariables false
set_option linter.unusedSimpArgs false
namespace Go.Proofs.Ytpciohnnnpgpiaa
open Go.RowKit Dc

def joinV (t : Nat) : Value := if t ≤ big then .tuple #[.int .i64 (t : Nat), .bool true] else .tuple #[.int .i64 0, .bool false]
theorem joinV_le {t : Nat} (h : t ≤ big) : joinV t = .tuple #[.int .i64 (t : Nat), .bool true] := by unfold joinV; rw [if_pos h]
theorem joinV_gt {t : Nat} (h : ¬ t ≤ big) : joinV t = .tuple #[.int .i64 0, .bool false] := by unfold joinV; rw [if_neg h]

set_option maxRecDepth 100000 in
set_option maxHeartbeats 4000000 in
theorem join_calls (x : Nat) (hx : x < 10 ^ 55) (w : World) :
    Calls Try.prog 38 #[.agg (sA (dgt x))] w fun e w' => e = .returned (joinV x) ∧ Below w.heap.size w w' := by
  have b1 := (Below.refl w.heap.size w).alloc (Nat.le_refl _) (.cells (sA (dgt x)) 43)
  have d1 := SAt.new w (dgt x)
  have hs := sA_size (dgt x)
  have hone := sA_one (dgt x)
  have B1 := Lib.hid b1
  have D1 := Lib.hid d1
  have Hx := Lib.hid hx
  clear b1 d1 hx
  go_enter Try.func38, Try.ntmps38
  go_wp2_with fail
  generalize w.alloc (.cells (sA (dgt x)) 43) = W at *
  clear hs hone
  go_loop [10] (fun s10 => ∃ j : Nat, j ≤ 36 ∧ s10 = .int .i64 (j : Nat) ∧ Hid (∀ i, 19 ≤ i → i < 19 + j → dgt x i = 0)) (fun s10 => 36 - (intOf s10).toNat)
  case atStart => exact ⟨0, by omega, rfl, fun i h1 h2 => by omega⟩
  case round =>
    obtain ⟨j, hj, rfl, H⟩ := hrel
    by_cases h36 : j < 36
    · have hc := D1.out.cell (19 + j) (by omega)
      by_cases h0 : dgt x (19 + j) = 0
      · have hstep : Hid (∀ i, 19 ≤ i → i < 19 + (j + 1) → dgt x i = 0) := fun i h1 h2 => by
          by_cases h : i = 19 + j
          · rw [h]; exact h0
          · exact H.out i h1 (by omega)
        rw [h0] at hc
        clear h0 H
        go_wp2_with fail
        go_round
        case rel => exact ⟨j + 1, by omega, by go_num, hstep.out⟩
        case measure => simp [intOf]; omega
      · have hbig : Hid (¬ x ≤ big) := fun e => by
          unfold big at e
          exact h0 (dgt_of_le (i := 19) (by omega) (by omega))
        have hd : (0 : Int) < ((dgt x (19 + j) : Nat) : Int) := by omega
        clear h0 H
        generalize dgt x (19 + j) = d at *
        go_wp2_with fail
        go_ret2
        exact ⟨by rw [joinV_gt hbig.out]; rfl, B1.out⟩
    · obtain rfl : j = 36 := by omega
      have hlow : Hid (x < 10 ^ 19) := lt_pow_of_dgts (k := 19) 36 (by have := Hx.out; simpa using this) (fun i h1 h2 => H.out i h1 h2)
      rw [show ((36 : Nat) : Int) = 36 from rfl]
      clear H
      go_wp2_with fail
      go_loop [6, 7] (fun s6 s7 => ∃ j t : Nat, j ≤ 19 ∧ s7 = .int .i64 ((j : Int) - 1) ∧ s6 = .int .u64 (t : Nat) ∧ Hid (t = x / 10 ^ j)) (fun _ s7 => (intOf s7 + 1).toNat)
      case atStart => exact ⟨19, 0, Nat.le_refl _, rfl, rfl, (Nat.div_eq_of_lt hlow.out).symm⟩
      case round =>
        obtain ⟨j, t, hj, rfl, rfl, H⟩ := hrel
        rcases j with _ | j
        · have ht : t = x := by have := H.out; simpa using this
          have hb : t < 10000000000000000000 := by have := hlow.out; omega
          have Ht := Lib.hid ht
          clear ht H
          by_cases h : t ≤ 9223372036854775807
          · go_wp2_with fail
            go_ret2
            exact ⟨by rw [← Ht.out, joinV_le (show t ≤ big from h)]; rfl, B1.out⟩
          · go_wp2_with fail
            go_ret2
            exact ⟨by rw [← Ht.out, joinV_gt (show ¬ t ≤ big from h)]; rfl, B1.out⟩
        · have e : ((j + 1 : Nat) : Int) - 1 = (j : Int) := by omega
          rw [e]
          have hc := D1.out.cell j (by omega)
          have hstep : x / 10 ^ j = 10 * t + dgt x j := by rw [H.out]; exact div_step x j
          have hle : x / 10 ^ j ≤ x := Nat.div_le_self _ _
          have hb : 10 * t + dgt x j < 10000000000000000000 := by have := hlow.out; omega
          have Hs := Lib.hid hstep
          clear hstep hle e H
          generalize dgt x j = d at *
          go_wp2_with fail
          go_round
          case rel => exact ⟨j, 10 * t + d, by omega, rfl, by go_num, Hs.out.symm⟩
          case measure => simp [intOf]

set_option maxRecDepth 100000 in
set_option maxHeartbeats 4000000 in
theorem compare_calls (x y : Nat) (hx : x < 10 ^ 55) (hy : y < 10 ^ 55) (w : World) :
    Calls Try.prog 43 #[.agg (sA (dgt x)), .agg (sA (dgt y))] w fun e w' => e = .returned (.int .i64 (ord3 x y)) ∧ Below w.heap.size w w' := by
  have b1 := (Below.refl w.heap.size w).alloc (Nat.le_refl _) (.cells (sA (dgt x)) 43)
  have b2 := kb_alloc b1 (Nat.le_refl _) (.cells (sA (dgt y)) 43)
  have d1 := (SAt.new w (dgt x)).alloc (.cells (sA (dgt y)) 43)
  have d2 := SAt.new (w.alloc (.cells (sA (dgt x)) 43)) (dgt y)
  rw [show (w.alloc (.cells (sA (dgt x)) 43)).heap.size = w.heap.size + 1 by simp] at d2
  have hs := sA_size (dgt x)
  have hone := sA_one (dgt x)
  have hs2 := sA_size (dgt y)
  have hone2 := sA_one (dgt y)
  have B2 := Lib.hid b2
  have D1 := Lib.hid d1
  have D2 := Lib.hid d2
  have Hx := Lib.hid (show x / 10 ^ 55 = y / 10 ^ 55 by rw [Nat.div_eq_of_lt hx, Nat.div_eq_of_lt hy])
  clear b1 b2 d1 d2 hx hy
  go_enter Try.func43, Try.ntmps43
  go_wp2_with fail
  generalize (w.alloc (.cells (sA (dgt x)) 43)).alloc (.cells (sA (dgt y)) 43) = W at *
  clear hs hone hs2 hone2
  go_loopw [5] (fun s5 wr => ∃ j : Nat, j ≤ 55 ∧ s5 = .int .i64 ((j : Int) - 1) ∧ Hid (x / 10 ^ j = y / 10 ^ j ∧ Below w.heap.size w wr ∧ SAt wr w.heap.size (dgt x) ∧ SAt wr (w.heap.size + 1) (dgt y))) (fun s5 _ => (intOf s5 + 1).toNat)
  case atStart => exact ⟨55, Nat.le_refl _, rfl, Hx.out, B2.out, D1.out, D2.out⟩
  case round =>
    clear Hx B2 D1 D2
    obtain ⟨j, hj, rfl, H⟩ := hrel
    obtain ⟨he, hB, hd1, hd2⟩ := H.out
    rcases j with _ | j
    · have hxy : Hid (ord3 (x : Int) (y : Int) = 0) := ord3_eq (congrArg Int.ofNat (show x = y by simpa using he))
      have HB := Lib.hid hB
      clear he hB hd1 hd2 H
      go_wp2_with fail
      go_ret
      exact ⟨by rw [hxy.out]; rfl, HB.out⟩
    · have e : ((j + 1 : Nat) : Int) - 1 = (j : Int) := by omega
      rw [e]
      have c1 := hd1.cell j (by omega)
      have c2 := hd2.cell j (by omega)
      have HH := Lib.hid (⟨hB, hd1, hd2⟩ : _ ∧ _ ∧ _)
      have h3 : Hid (dgt x j < dgt y j → ord3 (x : Int) (y : Int) = -1) := fun h => ord3_lt (by have := ord_lt_of_dgt he h; omega)
      have h4 : Hid (dgt y j < dgt x j → ord3 (x : Int) (y : Int) = 1) := fun h => ord3_gt (by have := ord_lt_of_dgt he.symm h; omega)
      have h5 : Hid (dgt x j = dgt y j → x / 10 ^ j = y / 10 ^ j) := fun h => ord_eq_of_dgt he h
      clear he hB hd1 hd2 H e
      generalize dgt x j = a at *
      generalize dgt y j = b at *
      have hxy : a < b ∨ b < a ∨ a = b := by omega
      rcases hxy with hx | hx | hx
      · have q1 : decide ((a : Int) < (b : Int)) = true := by simp; omega
        have q2 : decide (a < b) = true := by simp; omega
        have H3 := Lib.hid (h3.out hx)
        clear hx h3 h4 h5
        go_wp2_with fail
        go_quiet (fail)
        go_wp2_with fail
        go_ret
        exact ⟨by rw [H3.out]; rfl, below_drewN HH.out.1 nq⟩
      · have q1 : decide ((a : Int) < (b : Int)) = false := by simp; omega
        have q2 : decide (a < b) = false := by simp; omega
        have q3 : decide ((b : Int) < (a : Int)) = true := by simp; omega
        have q4 : decide (b < a) = true := by simp; omega
        have H3 := Lib.hid (h4.out hx)
        clear hx h3 h4 h5
        go_wp2_with fail
        go_quiet (fail)
        go_wp2_with fail
        go_quiet (fail)
        go_wp2_with fail
        go_ret
        exact ⟨by rw [H3.out]; rfl, (by repeat (first | exact HH.out.1 | refine below_drewN ?_ _))⟩
      · subst hx
        have q1 : decide ((a : Int) < (a : Int)) = false := by simp
        have q2 : decide (a < a) = false := by simp
        have H3 := Lib.hid (h5.out rfl)
        clear h3 h4 h5
        go_wp2_with fail
        go_quiet (fail)
        go_wp2_with fail
        go_quiet (fail)
        go_wp2_with fail
        go_roundw
        case rel => exact ⟨j, by omega, rfl, H3.out, (by repeat (first | exact HH.out.1 | refine below_drewN ?_ _)), ⟨HH.out.2.1.heap⟩, ⟨HH.out.2.2.heap⟩⟩
        case measure => simp [intOf]

end Go.Proofs.Ytpciohnnnpgpiaa
