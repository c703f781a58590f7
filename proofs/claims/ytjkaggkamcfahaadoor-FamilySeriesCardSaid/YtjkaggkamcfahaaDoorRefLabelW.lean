/- The texts RefLabelA, RefLabelB, one behind the other. -/
import Derived.Test.YtjkaggkamcfahaaDoorLabelW
import Derived.Test.YtjkaggkamcfahaaDoorRefUtfW
import Derived.Test.YtjkaggkamcfahaaDoorUtfP
import Derived.Deep.QuietTactic
import Derived.BigQuiet
import Derived.Test.YtjkaggkamcfahaaDoorLabelC

/- The reference's small functions on labels: text, number, Name, Value, Get. -/
set_option maxRecDepth 100000
set_option linter.unusedVariables false
set_option linter.unusedSimpArgs false
namespace Go.Proofs.YtjkaggkamcfahaaDoor
open Go.RowKit Go.Sort

set_option maxHeartbeats 1000000 in
theorem rtext_calls (a b : List UInt8) (w : World) :
    Calls Tryd.prog 45 #[.string (str a), .string (str b)] w fun e w' => e = .returned (.int .i64 (cb a b)) ∧ w = w' := by
  rcases cb_range a b with h | h | h
  · have h1 : Op.bytesLess a b = true := by rw [bl_cb, h]; rfl
    rw [h]; clear h
    go_enter Tryd.func45, Tryd.ntmps45
    go_wp2
    go_ret
    exact ⟨rfl, rfl⟩
  · have h1 : Op.bytesLess a b = false := by rw [bl_cb, h]; rfl
    have h2 : (a == b) = true := beq_iff_eq.2 (cb_eq a b h)
    rw [h]; clear h
    go_enter Tryd.func45, Tryd.ntmps45
    go_wp2
    go_ret
    exact ⟨rfl, rfl⟩
  · have h1 : Op.bytesLess a b = false := by rw [bl_cb, h]; rfl
    have h2 : (a == b) = false := beq_eq_false_iff_ne.2 (fun e => by rw [e, cb_refl] at h; exact absurd h (by decide))
    rw [h]; clear h
    go_enter Tryd.func45, Tryd.ntmps45
    go_wp2
    go_ret
    exact ⟨rfl, rfl⟩
/-- which of two numbers is less -/
def nuI (a b : Int) : Int := if a < b then -1 else if b < a then 1 else 0
set_option maxHeartbeats 1000000 in
theorem rnumber_calls (a b : Int) (w : World) :
    Calls Tryd.prog 26 #[.int .i64 a, .int .i64 b] w fun e w' => e = .returned (.int .i64 (nuI a b)) ∧ w = w' := by
  by_cases h1 : a < b
  · have e : nuI a b = -1 := if_pos h1
    rw [e]; clear e
    have d1 : decide (a < b) = true := decide_eq_true h1
    go_enter Tryd.func26, Tryd.ntmps26
    go_wp2
    go_ret
    exact ⟨rfl, rfl⟩
  · by_cases h2 : b < a
    · have e : nuI a b = 1 := by unfold nuI; rw [if_neg h1, if_pos h2]
      rw [e]; clear e
      have d1 : decide (a < b) = false := decide_eq_false h1
      have d2 : decide (b < a) = true := decide_eq_true h2
      go_enter Tryd.func26, Tryd.ntmps26
      go_wp2
      go_ret
      exact ⟨rfl, rfl⟩
    · have e : nuI a b = 0 := by unfold nuI; rw [if_neg h1, if_neg h2]
      rw [e]; clear e
      have d1 : decide (a < b) = false := decide_eq_false h1
      have d2 : decide (b < a) = false := decide_eq_false h2
      go_enter Tryd.func26, Tryd.ntmps26
      go_wp2
      go_ret
      exact ⟨rfl, rfl⟩
theorem nameOk_ctl {l : List UInt8} (h : ctl l = true) : nameOk l = false := by unfold nameOk; rw [h]; simp
theorem nameOk_no {l : List UInt8} (h : ctl l = false) : nameOk l = (decide (1 ≤ l.length) && decide (l.length ≤ 60) && decide (Utf.bad l < 0)) := by unfold nameOk; rw [h]; simp
end Go.Proofs.YtjkaggkamcfahaaDoor

/- The reference's CompareLabels, SameLabels, Labels. -/
set_option maxRecDepth 100000
set_option linter.unusedVariables false
set_option linter.unusedSimpArgs false
namespace Go.Proofs.YtjkaggkamcfahaaDoor
open Go.RowKit Go.Sort
attribute [local go_sem ↓] Go.wp_at_zero Go.wp_at_succ

theorem lbc_first {x y : Lb} (h : cb x.1 y.1 ≠ 0) : lbc x y = cb x.1 y.1 := if_neg h
theorem lbc_second {x y : Lb} (h : cb x.1 y.1 = 0) : lbc x y = cb x.2 y.2 := if_pos h
theorem nuI_len (a b : List Lb) (k : Nat) (ha : k = a.length ∨ k = b.length) (hka : k ≤ a.length) (hkb : k ≤ b.length) (H : cmpL a b = cmpL (a.drop k) (b.drop k)) : nuI (a.length : Nat) (b.length : Nat) = cmpL a b := by
  unfold nuI
  by_cases h1 : a.length < b.length
  · rw [if_pos (by omega), (cmpL_end H).1 (by omega) (by omega)]
  · rw [if_neg (by omega)]
    by_cases h2 : b.length < a.length
    · rw [if_pos (by omega), (cmpL_end H).2.1 (by omega) (by omega)]
    · rw [if_neg (by omega), (cmpL_end H).2.2 (by omega) (by omega)]
set_option maxHeartbeats 4000000 in
theorem rlcompare_calls (a b : List Lb) (v u : Value) (w : World) (hv : LbRow w v a) (hu : LbRow w u b) :
    Calls Tryd.prog 24 #[v, u] w fun e w' => e = .returned (.int .i64 (cmpL a b)) ∧ Below w.heap.size w w' := by
  obtain ⟨A, cap, rfl, hlc, hcm, hnil, hrow⟩ := hv
  obtain ⟨A', cap', rfl, hlc', hcm', hnil', hrow'⟩ := hu
  unfold maxLen at hcm hcm'
  have HR := Lib.hid hrow
  have HR' := Lib.hid hrow'
  clear hrow hnil hrow' hnil'
  go_enter Tryd.func24, Tryd.ntmps24
  go_wp2_with fail
  go_loopw [5] (fun v wr => ∃ k : Nat, k ≤ a.length ∧ k ≤ b.length ∧ v = .int .i64 (k : Nat) ∧ Hid (cmpL a b = cmpL (a.drop k) (b.drop k)) ∧ Below w.heap.size w wr) (fun v _ => a.length - (intOf v).toNat)
  case atStart => exact ⟨0, Nat.zero_le _, Nat.zero_le _, rfl, rfl, Below.refl _ _⟩
  case round =>
    obtain ⟨k, hka, hkb, rfl, H, hb⟩ := hrel
    by_cases h1 : k < a.length
    · have d1 : decide ((k : Int) < (a.length : Int)) = true := by simp; omega
      have d1' : decide (k < a.length) = true := by simp; omega
      by_cases h2 : k < b.length
      · have d2 : decide ((k : Int) < (b.length : Int)) = true := by simp; omega
        have d2' : decide (k < b.length) = true := by simp; omega
        obtain ⟨b1, off1, rfl, hbs, hc⟩ := HR.out (by omega)
        obtain ⟨c0, c1⟩ := hc k (lbAt a k) (at_get h1)
        have c0 := (hb.cell (p := ⟨b1, off1 + k * 2, none⟩) hbs).trans c0
        have c1 := (hb.cell (p := ⟨b1, off1 + k * 2 + 1, none⟩) hbs).trans c1
        clear hc
        obtain ⟨b2, off2, rfl, hbs2, hc2⟩ := HR'.out (by omega)
        obtain ⟨e0, e1⟩ := hc2 k (lbAt b k) (at_get h2)
        have e0 := (hb.cell (p := ⟨b2, off2 + k * 2, none⟩) hbs2).trans e0
        have e1 := (hb.cell (p := ⟨b2, off2 + k * 2 + 1, none⟩) hbs2).trans e1
        clear hc2
        have hs := cmpL_at h1 h2 H.out
        rw [show a[k] = lbAt a k from (lbAt_of h1).symm, show b[k] = lbAt b k from (lbAt_of h2).symm] at hs
        have HS := Lib.hid hs
        clear hs
        generalize lbAt a k = X at *
        generalize lbAt b k = Y at *
        obtain ⟨X1, X2⟩ := X
        obtain ⟨Y1, Y2⟩ := Y
        simp only at c0 c1 e0 e1
        have HT1 := Lib.hid (fun W => rtext_calls X1 Y1 W)
        have HT2 := Lib.hid (fun W => rtext_calls X2 Y2 W)
        have hk0 : (0 : Int) ≤ (k : Int) := by omega
        have HB := Lib.hid hb
        clear hb
        by_cases hC : cb X1 Y1 = 0
        · have hl := Lib.hid (lbc_second (x := (X1, X2)) (y := (Y1, Y2)) hC)
          rw [hC] at HT1
          by_cases hD : cb X2 Y2 = 0
          · have hr := Lib.hid (HS.out.1 (by rw [hl.out]; exact hD))
            rw [hD] at HT2
            clear HS hC hD hl
            go_wp2_with fail
            go_quiet ((go_at_call 45; exact Calls.quiet_of_same ((HT1.out _).mono fun _ _ h => ⟨h.1, h.2.symm⟩)))
            have hB1 := below_drewN HB.out nq
            have c1 : (wr.drewN nq).cell? ⟨b1, off1 + k * 2 + 1, none⟩ = some (.string (str X2)) := c1
            have e1 : (wr.drewN nq).cell? ⟨b2, off2 + k * 2 + 1, none⟩ = some (.string (str Y2)) := e1
            clear c0 e0 HB
            generalize wr.drewN nq = W1 at *
            have HB := Lib.hid hB1
            clear hB1
            go_wp2_with fail
            go_quiet ((go_at_call 45; exact Calls.quiet_of_same ((HT2.out _).mono fun _ _ h => ⟨h.1, h.2.symm⟩)))
            go_wp2_with fail
            go_roundw
            case rel => exact ⟨k + 1, h1, h2, by go_num, hr.out, below_drewN HB.out _⟩
            case measure => simp [intOf]; omega
          · have hr := Lib.hid (HS.out.2 (by rw [hl.out]; exact hD))
            have hr2 := Lib.hid (hr.out.trans hl.out)
            have dD : (cb X2 Y2 == 0) = false := by simpa using hD
            simp only at hr2
            generalize cb X2 Y2 = C at *
            clear HS hC hl hr
            go_wp2_with fail
            go_quiet ((go_at_call 45; exact Calls.quiet_of_same ((HT1.out _).mono fun _ _ h => ⟨h.1, h.2.symm⟩)))
            have hB1 := below_drewN HB.out nq
            have c1 : (wr.drewN nq).cell? ⟨b1, off1 + k * 2 + 1, none⟩ = some (.string (str X2)) := c1
            have e1 : (wr.drewN nq).cell? ⟨b2, off2 + k * 2 + 1, none⟩ = some (.string (str Y2)) := e1
            clear c0 e0 HB
            generalize wr.drewN nq = W1 at *
            have HB := Lib.hid hB1
            clear hB1
            go_wp2_with fail
            go_quiet ((go_at_call 45; exact Calls.quiet_of_same ((HT2.out _).mono fun _ _ h => ⟨h.1, h.2.symm⟩)))
            go_wp2_with fail
            go_ret
            exact ⟨by rw [hr2.out]; rfl, below_drewN HB.out _⟩
        · have hl := Lib.hid (lbc_first (x := (X1, X2)) (y := (Y1, Y2)) hC)
          have hr := Lib.hid (HS.out.2 (by rw [hl.out]; exact hC))
          have hr2 := Lib.hid (hr.out.trans hl.out)
          have dC : (cb X1 Y1 == 0) = false := by simpa using hC
          simp only at hr2
          generalize cb X1 Y1 = C at *
          clear HS hl hr
          go_wp2_with fail
          go_quiet ((go_at_call 45; exact Calls.quiet_of_same ((HT1.out _).mono fun _ _ h => ⟨h.1, h.2.symm⟩)))
          go_wp2_with fail
          go_ret
          exact ⟨by rw [hr2.out]; rfl, by exact below_drewN HB.out _⟩
      · have d2 : decide ((k : Int) < (b.length : Int)) = false := by simp; omega
        have d2' : decide (k < b.length) = false := by simp; omega
        have hr := Lib.hid (nuI_len a b k (by omega) hka hkb H.out)
        have hn := Lib.hid (fun W => rnumber_calls (a.length : Nat) (b.length : Nat) W)
        generalize nuI (a.length : Nat) (b.length : Nat) = C at *
        go_wp2_with fail
        refine (hn.out _).mono ?_; rintro e w1 ⟨rfl, rfl⟩
        go_wp2
        go_ret
        exact ⟨by rw [← hr.out]; rfl, hb⟩
    · have d1 : decide ((k : Int) < (a.length : Int)) = false := by simp; omega
      have d1' : decide (k < a.length) = false := by simp; omega
      have hr := Lib.hid (nuI_len a b k (by omega) hka hkb H.out)
      have hn := Lib.hid (fun W => rnumber_calls (a.length : Nat) (b.length : Nat) W)
      generalize nuI (a.length : Nat) (b.length : Nat) = C at *
      go_wp2_with fail
      refine (hn.out _).mono ?_; rintro e w1 ⟨rfl, rfl⟩
      go_wp2
      go_ret
      exact ⟨by rw [← hr.out]; rfl, hb⟩
end Go.Proofs.YtjkaggkamcfahaaDoor
