/- The texts RefLabelA, RefLabelB, RefLabelC, one behind the other. -/
import Derived.Test.YtjeefgamkoeiaaaGreatDoorLabelW
import Derived.Test.YtjeefgamkoeiaaaGreatDoorRefUtfW
import Derived.Deep.QuietTactic
import Derived.BigQuiet
import Derived.Test.YtjeefgamkoeiaaaGreatDoorLabelC

/- The reference's small functions on labels: text, number, Name, Value, Get. -/
set_option maxRecDepth 100000
set_option linter.unusedVariables false
set_option linter.unusedSimpArgs false
namespace Go.Proofs.YtjeefgamkoeiaaaGreatDoor
open Go.RowKit Go.Sort

set_option maxHeartbeats 1000000 in
theorem rtext_calls (a b : List UInt8) (w : World) :
    Calls Tryz.prog 90 #[.string (str a), .string (str b)] w fun e w' => e = .returned (.int .i64 (cb a b)) ∧ w = w' := by
  rcases cb_range a b with h | h | h
  · have h1 : Op.bytesLess a b = true := by rw [bl_cb, h]; rfl
    rw [h]; clear h
    go_enter Tryz.func90, Tryz.ntmps90
    go_wp2
    go_ret
    exact ⟨rfl, rfl⟩
  · have h1 : Op.bytesLess a b = false := by rw [bl_cb, h]; rfl
    have h2 : (a == b) = true := beq_iff_eq.2 (cb_eq a b h)
    rw [h]; clear h
    go_enter Tryz.func90, Tryz.ntmps90
    go_wp2
    go_ret
    exact ⟨rfl, rfl⟩
  · have h1 : Op.bytesLess a b = false := by rw [bl_cb, h]; rfl
    have h2 : (a == b) = false := beq_eq_false_iff_ne.2 (fun e => by rw [e, cb_refl] at h; exact absurd h (by decide))
    rw [h]; clear h
    go_enter Tryz.func90, Tryz.ntmps90
    go_wp2
    go_ret
    exact ⟨rfl, rfl⟩
/-- which of two numbers is less -/
def nuI (a b : Int) : Int := if a < b then -1 else if b < a then 1 else 0
set_option maxHeartbeats 1000000 in
theorem rnumber_calls (a b : Int) (w : World) :
    Calls Tryz.prog 65 #[.int .i64 a, .int .i64 b] w fun e w' => e = .returned (.int .i64 (nuI a b)) ∧ w = w' := by
  by_cases h1 : a < b
  · have e : nuI a b = -1 := if_pos h1
    rw [e]; clear e
    have d1 : decide (a < b) = true := decide_eq_true h1
    go_enter Tryz.func65, Tryz.ntmps65
    go_wp2
    go_ret
    exact ⟨rfl, rfl⟩
  · by_cases h2 : b < a
    · have e : nuI a b = 1 := by unfold nuI; rw [if_neg h1, if_pos h2]
      rw [e]; clear e
      have d1 : decide (a < b) = false := decide_eq_false h1
      have d2 : decide (b < a) = true := decide_eq_true h2
      go_enter Tryz.func65, Tryz.ntmps65
      go_wp2
      go_ret
      exact ⟨rfl, rfl⟩
    · have e : nuI a b = 0 := by unfold nuI; rw [if_neg h1, if_neg h2]
      rw [e]; clear e
      have d1 : decide (a < b) = false := decide_eq_false h1
      have d2 : decide (b < a) = false := decide_eq_false h2
      go_enter Tryz.func65, Tryz.ntmps65
      go_wp2
      go_ret
      exact ⟨rfl, rfl⟩
theorem nameOk_ctl {l : List UInt8} (h : ctl l = true) : nameOk l = false := by unfold nameOk; rw [h]; simp
theorem nameOk_no {l : List UInt8} (h : ctl l = false) : nameOk l = (decide (1 ≤ l.length) && decide (l.length ≤ 60) && decide (Utf.bad l < 0)) := by unfold nameOk; rw [h]; simp
set_option maxHeartbeats 2000000 in
theorem rname_calls (l : List UInt8) (w : World) (hl : l.length ≤ maxLen) :
    Calls Tryz.prog 59 #[.string (str l)] w fun e w' => e = .returned (.bool (nameOk l)) ∧ w = w' := by
  have hsz := str_size l
  have hb := Lib.hid (fun W => bad_ref (str l) W (by rw [hsz]; exact hl))
  unfold maxLen at hl
  go_enter Tryz.func59, Tryz.ntmps59
  go_wp2_with fail
  go_loop [3] (fun v => ∃ k : Nat, k ≤ l.length ∧ v = .int .i64 (k : Nat) ∧ Hid (ctl (l.take k) = false)) (fun v => l.length - (intOf v).toNat)
  case atStart => exact ⟨0, Nat.zero_le _, rfl, rfl⟩
  case round =>
    obtain ⟨k, hk, rfl, H⟩ := hrel
    by_cases h : k < l.length
    · have hin : k < (str l).size := by rw [hsz]; exact h
      have ht := Lib.hid (ctl_take l k hin H.out)
      by_cases h1 : ((str l)[k].toNat : Int) < 32
      · have d1 : decide (((str l)[k].toNat : Int) < 32) = true := decide_eq_true h1
        have hr := Lib.hid (nameOk_ctl (ctl_some (l := l) (k := k + 1) (by rw [ht.out, d1]; rfl)))
        go_wp2
        go_ret
        exact ⟨by rw [hr.out]; rfl, rfl⟩
      · have d1 : decide (((str l)[k].toNat : Int) < 32) = false := decide_eq_false h1
        by_cases h2 : ((str l)[k].toNat : Int) = 127
        · have d2 : decide (((str l)[k].toNat : Int) = 127) = true := decide_eq_true h2
          have hr := Lib.hid (nameOk_ctl (ctl_some (l := l) (k := k + 1) (by rw [ht.out, d2]; simp)))
          go_wp2
          go_ret
          exact ⟨by rw [hr.out]; rfl, rfl⟩
        · have d2 : decide (((str l)[k].toNat : Int) = 127) = false := decide_eq_false h2
          have hn := Lib.hid (show ctl (l.take (k + 1)) = false by rw [ht.out, d1, d2]; rfl)
          go_wp2
          go_round
          case rel => exact ⟨k + 1, h, by go_num, hn.out⟩
          case measure => simp [intOf]; omega
    · have hr := Lib.hid (nameOk_no (show ctl l = false by have := H.out; rwa [List.take_of_length_le (by omega)] at this))
      clear H
      by_cases h1 : 1 ≤ l.length
      · have d1 : decide ((1 : Int) ≤ (l.length : Int)) = true := by simp; omega
        by_cases h2 : l.length ≤ 60
        · have d2 : decide ((l.length : Int) ≤ 60) = true := by simp; omega
          have hr2 := Lib.hid (show nameOk l = decide (Utf.bad l < 0) by rw [hr.out, decide_eq_true h1, decide_eq_true h2]; rfl)
          clear hr
          generalize Utf.bad l = B at *
          go_wp2_with fail
          refine (hb.out _).mono ?_; rintro e w1 ⟨rfl, rfl⟩
          go_wp2
          go_ret
          exact ⟨by rw [hr2.out]; rfl, rfl⟩
        · have d2 : decide ((l.length : Int) ≤ 60) = false := by simp; omega
          have hr2 := Lib.hid (show nameOk l = false by rw [hr.out, decide_eq_false h2]; simp)
          clear hr
          go_wp2
          go_ret
          exact ⟨by rw [hr2.out]; rfl, rfl⟩
      · have d1 : decide ((1 : Int) ≤ (l.length : Int)) = false := by simp; omega
        have hr2 := Lib.hid (show nameOk l = false by rw [hr.out, decide_eq_false h1]; simp)
        clear hr
        go_wp2
        go_ret
        exact ⟨by rw [hr2.out]; rfl, rfl⟩
set_option maxHeartbeats 2000000 in
theorem rvalue_calls (l : List UInt8) (w : World) (hl : l.length ≤ maxLen) :
    Calls Tryz.prog 61 #[.string (str l)] w fun e w' => e = .returned (.bool (valueOk l)) ∧ w = w' := by
  have hsz := str_size l
  have hb := Lib.hid (bad_ref (str l) w (by rw [hsz]; exact hl))
  unfold maxLen at hl
  by_cases h2 : l.length ≤ 60
  · have d2 : decide ((l.length : Int) ≤ 60) = true := by simp; omega
    have e : valueOk l = decide (Utf.bad l < 0) := by unfold valueOk; rw [decide_eq_true h2]; rfl
    rw [e]; clear e
    generalize Utf.bad l = B at *
    go_enter Tryz.func61, Tryz.ntmps61
    go_wp2_with fail
    refine hb.out.mono ?_; rintro e w1 ⟨rfl, rfl⟩
    go_wp2
    go_ret
    exact ⟨rfl, rfl⟩
  · have d2 : decide ((l.length : Int) ≤ 60) = false := by simp; omega
    have e : valueOk l = false := by unfold valueOk; rw [decide_eq_false h2]; simp
    rw [e]; clear e
    go_enter Tryz.func61, Tryz.ntmps61
    go_wp2
    go_ret
    exact ⟨rfl, rfl⟩
set_option maxHeartbeats 4000000 in
theorem rget_calls (l : List Lb) (v : Value) (n : List UInt8) (w : World) (hv : LbRow w v l) :
    Calls Tryz.prog 89 #[v, .string (str n)] w fun e w' => e = .returned (.tuple #[.string (str (getL l n).1), .bool (getL l n).2]) ∧ w = w' := by
  obtain ⟨A, cap, rfl, hlc, hcm, hnil, hrow⟩ := hv
  unfold maxLen at hcm
  have HR := Lib.hid hrow
  clear hrow hnil
  go_enter Tryz.func89, Tryz.ntmps89
  go_wp2_with fail
  go_loop [6] (fun v => ∃ k : Nat, k ≤ l.length ∧ v = .int .i64 (k : Nat) ∧ Hid (getL l n = getL (l.drop k) n)) (fun v => l.length - (intOf v).toNat)
  case atStart => exact ⟨0, Nat.zero_le _, rfl, rfl⟩
  case round =>
    obtain ⟨k, hk, rfl, H⟩ := hrel
    by_cases hkl : k < l.length
    · obtain ⟨b, off, rfl, hbs, hc⟩ := HR.out (by omega)
      obtain ⟨c0, c1⟩ := hc k (lbAt l k) (at_get hkl)
      have ha := Lib.hid (getL_at hkl H.out)
      generalize lbAt l k = X at *
      obtain ⟨X1, X2⟩ := X
      simp only at c0 c1 ha
      clear hc
      by_cases hx : X1 = n
      · have hr := Lib.hid (ha.out.1 hx)
        have heq : (X1 == n) = true := beq_iff_eq.2 hx
        clear hx ha
        go_wp2
        go_ret2
        exact ⟨by rw [hr.out]; rfl, rfl⟩
      · have hr := Lib.hid (ha.out.2 hx)
        have heq : (X1 == n) = false := beq_eq_false_iff_ne.2 hx
        clear hx ha
        go_wp2
        go_round
        case rel => exact ⟨k + 1, hkl, by go_num, hr.out⟩
        case measure => simp [intOf]; omega
    · have hr := Lib.hid (getL_end (by omega) H.out)
      go_wp2
      go_ret2
      exact ⟨by rw [hr.out]; rfl, rfl⟩

end Go.Proofs.YtjeefgamkoeiaaaGreatDoor

/- The reference's CompareLabels, SameLabels, Labels. -/
set_option maxRecDepth 100000
set_option linter.unusedVariables false
set_option linter.unusedSimpArgs false
namespace Go.Proofs.YtjeefgamkoeiaaaGreatDoor
open Go.RowKit Go.Sort
attribute [local go_sem ↓] Go.wp_at_zero Go.wp_at_succ

theorem lbc_first {x y : Lb} (h : cb x.1 y.1 ≠ 0) : lbc x y = cb x.1 y.1 := if_neg h
theorem lbc_second {x y : Lb} (h : cb x.1 y.1 = 0) : lbc x y = cb x.2 y.2 := if_pos h
theorem nuI_len (a b : List Lb) (k : Nat) (ha : k = a.length ∨ k = b.length) (hka : k ≤ a.length) (hkb : k ≤ b.length) (H : cmpL a b = cmpL (a.drop k) (b.drop k)) : nuI (a.length : Nat) (b.length : Nat) = cmpL a b := by
  unfold nuI
  by_cases h1 : a.length < b.length
  · rw [if_pos (by omega), (cmpL_end H).1 (by omega) (by omega)]
  · rw [if_neg (by omega)]
    by_cases h2 : b.length < a.length
    · rw [if_pos (by omega), (cmpL_end H).2.1 (by omega) (by omega)]
    · rw [if_neg (by omega), (cmpL_end H).2.2 (by omega) (by omega)]
set_option maxHeartbeats 4000000 in
theorem rlcompare_calls (a b : List Lb) (v u : Value) (w : World) (hv : LbRow w v a) (hu : LbRow w u b) :
    Calls Tryz.prog 63 #[v, u] w fun e w' => e = .returned (.int .i64 (cmpL a b)) ∧ Below w.heap.size w w' := by
  obtain ⟨A, cap, rfl, hlc, hcm, hnil, hrow⟩ := hv
  obtain ⟨A', cap', rfl, hlc', hcm', hnil', hrow'⟩ := hu
  unfold maxLen at hcm hcm'
  have HR := Lib.hid hrow
  have HR' := Lib.hid hrow'
  clear hrow hnil hrow' hnil'
  go_enter Tryz.func63, Tryz.ntmps63
  go_wp2_with fail
  go_loopw [5] (fun v wr => ∃ k : Nat, k ≤ a.length ∧ k ≤ b.length ∧ v = .int .i64 (k : Nat) ∧ Hid (cmpL a b = cmpL (a.drop k) (b.drop k)) ∧ Below w.heap.size w wr) (fun v _ => a.length - (intOf v).toNat)
  case atStart => exact ⟨0, Nat.zero_le _, Nat.zero_le _, rfl, rfl, Below.refl _ _⟩
  case round =>
    obtain ⟨k, hka, hkb, rfl, H, hb⟩ := hrel
    by_cases h1 : k < a.length
    · have d1 : decide ((k : Int) < (a.length : Int)) = true := by simp; omega
      have d1' : decide (k < a.length) = true := by simp; omega
      by_cases h2 : k < b.length
      · have d2 : decide ((k : Int) < (b.length : Int)) = true := by simp; omega
        have d2' : decide (k < b.length) = true := by simp; omega
        obtain ⟨b1, off1, rfl, hbs, hc⟩ := HR.out (by omega)
        obtain ⟨c0, c1⟩ := hc k (lbAt a k) (at_get h1)
        have c0 := (hb.cell (p := ⟨b1, off1 + k * 2, none⟩) hbs).trans c0
        have c1 := (hb.cell (p := ⟨b1, off1 + k * 2 + 1, none⟩) hbs).trans c1
        clear hc
        obtain ⟨b2, off2, rfl, hbs2, hc2⟩ := HR'.out (by omega)
        obtain ⟨e0, e1⟩ := hc2 k (lbAt b k) (at_get h2)
        have e0 := (hb.cell (p := ⟨b2, off2 + k * 2, none⟩) hbs2).trans e0
        have e1 := (hb.cell (p := ⟨b2, off2 + k * 2 + 1, none⟩) hbs2).trans e1
        clear hc2
        have hs := cmpL_at h1 h2 H.out
        rw [show a[k] = lbAt a k from (lbAt_of h1).symm, show b[k] = lbAt b k from (lbAt_of h2).symm] at hs
        have HS := Lib.hid hs
        clear hs
        generalize lbAt a k = X at *
        generalize lbAt b k = Y at *
        obtain ⟨X1, X2⟩ := X
        obtain ⟨Y1, Y2⟩ := Y
        simp only at c0 c1 e0 e1
        have HT1 := Lib.hid (fun W => rtext_calls X1 Y1 W)
        have HT2 := Lib.hid (fun W => rtext_calls X2 Y2 W)
        have hk0 : (0 : Int) ≤ (k : Int) := by omega
        have HB := Lib.hid hb
        clear hb
        by_cases hC : cb X1 Y1 = 0
        · have hl := Lib.hid (lbc_second (x := (X1, X2)) (y := (Y1, Y2)) hC)
          rw [hC] at HT1
          by_cases hD : cb X2 Y2 = 0
          · have hr := Lib.hid (HS.out.1 (by rw [hl.out]; exact hD))
            rw [hD] at HT2
            clear HS hC hD hl
            go_wp2_with fail
            go_quiet ((go_at_call 90; exact Calls.quiet_of_same ((HT1.out _).mono fun _ _ h => ⟨h.1, h.2.symm⟩)))
            have hB1 := below_drewN HB.out nq
            have c1 : (wr.drewN nq).cell? ⟨b1, off1 + k * 2 + 1, none⟩ = some (.string (str X2)) := c1
            have e1 : (wr.drewN nq).cell? ⟨b2, off2 + k * 2 + 1, none⟩ = some (.string (str Y2)) := e1
            clear c0 e0 HB
            generalize wr.drewN nq = W1 at *
            have HB := Lib.hid hB1
            clear hB1
            go_wp2_with fail
            go_quiet ((go_at_call 90; exact Calls.quiet_of_same ((HT2.out _).mono fun _ _ h => ⟨h.1, h.2.symm⟩)))
            go_wp2_with fail
            go_roundw
            case rel => exact ⟨k + 1, h1, h2, by go_num, hr.out, below_drewN HB.out _⟩
            case measure => simp [intOf]; omega
          · have hr := Lib.hid (HS.out.2 (by rw [hl.out]; exact hD))
            have hr2 := Lib.hid (hr.out.trans hl.out)
            have dD : (cb X2 Y2 == 0) = false := by simpa using hD
            simp only at hr2
            generalize cb X2 Y2 = C at *
            clear HS hC hl hr
            go_wp2_with fail
            go_quiet ((go_at_call 90; exact Calls.quiet_of_same ((HT1.out _).mono fun _ _ h => ⟨h.1, h.2.symm⟩)))
            have hB1 := below_drewN HB.out nq
            have c1 : (wr.drewN nq).cell? ⟨b1, off1 + k * 2 + 1, none⟩ = some (.string (str X2)) := c1
            have e1 : (wr.drewN nq).cell? ⟨b2, off2 + k * 2 + 1, none⟩ = some (.string (str Y2)) := e1
            clear c0 e0 HB
            generalize wr.drewN nq = W1 at *
            have HB := Lib.hid hB1
            clear hB1
            go_wp2_with fail
            go_quiet ((go_at_call 90; exact Calls.quiet_of_same ((HT2.out _).mono fun _ _ h => ⟨h.1, h.2.symm⟩)))
            go_wp2_with fail
            go_ret
            exact ⟨by rw [hr2.out]; rfl, below_drewN HB.out _⟩
        · have hl := Lib.hid (lbc_first (x := (X1, X2)) (y := (Y1, Y2)) hC)
          have hr := Lib.hid (HS.out.2 (by rw [hl.out]; exact hC))
          have hr2 := Lib.hid (hr.out.trans hl.out)
          have dC : (cb X1 Y1 == 0) = false := by simpa using hC
          simp only at hr2
          generalize cb X1 Y1 = C at *
          clear HS hl hr
          go_wp2_with fail
          go_quiet ((go_at_call 90; exact Calls.quiet_of_same ((HT1.out _).mono fun _ _ h => ⟨h.1, h.2.symm⟩)))
          go_wp2_with fail
          go_ret
          exact ⟨by rw [hr2.out]; rfl, by exact below_drewN HB.out _⟩
      · have d2 : decide ((k : Int) < (b.length : Int)) = false := by simp; omega
        have d2' : decide (k < b.length) = false := by simp; omega
        have hr := Lib.hid (nuI_len a b k (by omega) hka hkb H.out)
        have hn := Lib.hid (fun W => rnumber_calls (a.length : Nat) (b.length : Nat) W)
        generalize nuI (a.length : Nat) (b.length : Nat) = C at *
        go_wp2_with fail
        refine (hn.out _).mono ?_; rintro e w1 ⟨rfl, rfl⟩
        go_wp2
        go_ret
        exact ⟨by rw [← hr.out]; rfl, hb⟩
    · have d1 : decide ((k : Int) < (a.length : Int)) = false := by simp; omega
      have d1' : decide (k < a.length) = false := by simp; omega
      have hr := Lib.hid (nuI_len a b k (by omega) hka hkb H.out)
      have hn := Lib.hid (fun W => rnumber_calls (a.length : Nat) (b.length : Nat) W)
      generalize nuI (a.length : Nat) (b.length : Nat) = C at *
      go_wp2_with fail
      refine (hn.out _).mono ?_; rintro e w1 ⟨rfl, rfl⟩
      go_wp2
      go_ret
      exact ⟨by rw [← hr.out]; rfl, hb⟩
end Go.Proofs.YtjeefgamkoeiaaaGreatDoor

/- The reference's Labels. -/
set_option maxRecDepth 100000
set_option linter.unusedVariables false
set_option linter.unusedSimpArgs false
namespace Go.Proofs.YtjeefgamkoeiaaaGreatDoor
open Go.RowKit Go.Sort
attribute [local go_sem ↓] Go.wp_at_zero Go.wp_at_succ

set_option maxHeartbeats 8000000 in
theorem rlabels_calls (l : List Lb) (v : Value) (w : World) (hv : LbRow w v l) (hf : Fit l) :
    Calls Tryz.prog 86 #[v] w fun e w' => e = .returned (.bool (goodL l)) ∧ Below w.heap.size w w' := by
  obtain ⟨A, cap, rfl, hlc, hcm, hnil, hrow⟩ := hv
  unfold maxLen at hcm
  by_cases h8 : l.length ≤ 8
  · have d8 : decide ((8 : Int) < (l.length : Int)) = false := by simp; omega
    have HR := Lib.hid hrow
    have HF := Lib.hid hf
    clear hrow hf hnil
    have HN := Lib.hid (fun (s : List UInt8) (hs : s.length ≤ maxLen) (W : World) => rname_calls s W hs)
    have HV := Lib.hid (fun (s : List UInt8) (hs : s.length ≤ maxLen) (W : World) => rvalue_calls s W hs)
    go_enter Tryz.func86, Tryz.ntmps86
    go_wp2_with fail
    go_loopw [3] (fun v wr => ∃ k : Nat, k ≤ l.length ∧ v = .int .i64 (k : Nat) ∧ Hid (goodTo l k = true) ∧ Below w.heap.size w wr) (fun v _ => l.length - (intOf v).toNat)
    case atStart => exact ⟨0, Nat.zero_le _, rfl, rfl, Below.refl _ _⟩
    case round =>
      obtain ⟨k, hk, rfl, H, hb⟩ := hrel
      by_cases hkl : k < l.length
      · obtain ⟨b, off, rfl, hbs, hc⟩ := HR.out (by omega)
        obtain ⟨c0, c1⟩ := hc k (lbAt l k) (at_get hkl)
        have c0 := (hb.cell (p := ⟨b, off + k * 2, none⟩) hbs).trans c0
        have c1 := (hb.cell (p := ⟨b, off + k * 2 + 1, none⟩) hbs).trans c1
        obtain ⟨f0, f1⟩ := HF.out (lbAt l k) (at_mem hkl)
        have hnc := Lib.hid (HN.out _ f0)
        have hvc := Lib.hid (HV.out _ f1)
        have gn := Lib.hid (fun h => goodL_no hkl (goodAt_name (l := l) (k := k) h))
        have gv := Lib.hid (fun h => goodL_no hkl (goodAt_value (l := l) (k := k) h))
        have gz := Lib.hid (fun (h : k = 0) (h1 : nameOk (lbAt l k).1 = true) (h2 : valueOk (lbAt l k).2 = true) => show goodTo l (k + 1) = true by rw [goodTo_succ H.out]; subst h; exact goodAt_zero h1 h2)
        have gl := Lib.hid (fun (j : Nat) (h : k = j + 1) (h1 : nameOk (lbAt l k).1 = true) (h2 : valueOk (lbAt l k).2 = true) => show goodAt l k = decide (cb (lbAt l j).1 (lbAt l k).1 < 0) by subst h; exact goodAt_less h1 h2)
        have gs := Lib.hid (goodTo_succ H.out)
        have gno := Lib.hid (fun h => goodL_no (l := l) (k := k) hkl h)
        have hcp := Lib.hid (fun (j : Nat) (h : k = j + 1) => hc j (lbAt l j) (at_get (by omega)))
        generalize lbAt l k = X at *
        obtain ⟨X1, X2⟩ := X
        simp only at c0 c1 hnc hvc gn gv gz gl
        have HB := Lib.hid hb
        have hk0 : (0 : Int) ≤ (k : Int) := by omega
        have hkb : (k : Int) < (l.length : Int) := by omega
        clear hc f0 f1
        cases hN : nameOk X1
        · rw [hN] at hnc
          clear hcp gl hb
          go_wp2_with fail
          go_quiet ((first | (go_at_call 59; exact Calls.quiet_of_same ((hnc.out _).mono fun _ _ h => ⟨h.1, h.2.symm⟩)) | (go_at_call 61; exact Calls.quiet_of_same ((hvc.out _).mono fun _ _ h => ⟨h.1, h.2.symm⟩))))
          go_wp2_with fail
          go_ret
          exact ⟨by rw [gn.out hN]; rfl, below_drewN HB.out _⟩
        · rw [hN] at hnc
          cases hV : valueOk X2
          · rw [hV] at hvc
            clear hcp gl hb
            go_wp2_with fail
            go_quiet ((first | (go_at_call 59; exact Calls.quiet_of_same ((hnc.out _).mono fun _ _ h => ⟨h.1, h.2.symm⟩)) | (go_at_call 61; exact Calls.quiet_of_same ((hvc.out _).mono fun _ _ h => ⟨h.1, h.2.symm⟩))))
            go_wp2_with fail
            go_ret
            exact ⟨by rw [gv.out hV]; rfl, below_drewN HB.out _⟩
          · rw [hV] at hvc
            have hNN := Lib.hid hN
            have hVV := Lib.hid hV
            clear hN hV
            by_cases k0 : k = 0
            · have hg := Lib.hid (gz.out k0 hNN.out hVV.out)
              clear hcp gl gs gno hb
              obtain rfl := k0
              simp only [Nat.zero_mul, Nat.add_zero] at c0 c1
              rw [show ((0 : Nat) : Int) = 0 from rfl]
              go_wp2_with fail
              go_quiet ((first | (go_at_call 59; exact Calls.quiet_of_same ((hnc.out _).mono fun _ _ h => ⟨h.1, h.2.symm⟩)) | (go_at_call 61; exact Calls.quiet_of_same ((hvc.out _).mono fun _ _ h => ⟨h.1, h.2.symm⟩))))
              go_wp2_with fail
              go_roundw
              case rel => exact ⟨1, hkl, by go_num, hg.out, below_drewN HB.out _⟩
              case measure => simp [intOf]; omega
            · obtain ⟨j, hj⟩ : ∃ j, k = j + 1 := ⟨k - 1, by omega⟩
              have hgl := Lib.hid (gl.out j hj hNN.out hVV.out)
              obtain ⟨e0, e1⟩ := hcp.out j hj
              have e0 := (hb.cell (p := ⟨b, off + j * 2, none⟩) hbs).trans e0
              have hbl := bl_cb (lbAt l j).1 X1
              generalize lbAt l j = Y at *
              obtain ⟨Y1, Y2⟩ := Y
              simp only at e0 e1 hbl hgl
              have dk : decide ((0 : Int) < (k : Int)) = true := by simp; omega
              have dk2 : decide (0 < k) = true := by simp; omega
              have hkj : (k : Int) - 1 = (j : Int) := by omega
              have hw1 : IntKind.i64.wrap (j : Int) = (j : Int) := IntWalk.i64_in _ (by omega)
              have hj0 : (0 : Int) ≤ (j : Int) := by omega
              have hj1 : (j : Int) < (l.length : Int) := by omega
              have hjl : j < l.length := by omega
              clear hcp gl gz gn gv hj hb e1
              by_cases hC : cb Y1 X1 < 0
              · rw [decide_eq_true hC] at hbl hgl
                have hg := Lib.hid (show goodTo l (k + 1) = true by rw [gs.out, hgl.out])
                go_wp2_with fail
                go_quiet ((first | (go_at_call 59; exact Calls.quiet_of_same ((hnc.out _).mono fun _ _ h => ⟨h.1, h.2.symm⟩)) | (go_at_call 61; exact Calls.quiet_of_same ((hvc.out _).mono fun _ _ h => ⟨h.1, h.2.symm⟩))))
                go_wp2_with fail
                go_roundw
                case rel => exact ⟨k + 1, hkl, by go_num, hg.out, below_drewN HB.out _⟩
                case measure => simp [intOf]; omega
              · rw [decide_eq_false hC] at hbl hgl
                have hr := Lib.hid (gno.out hgl.out)
                go_wp2_with fail
                go_quiet ((first | (go_at_call 59; exact Calls.quiet_of_same ((hnc.out _).mono fun _ _ h => ⟨h.1, h.2.symm⟩)) | (go_at_call 61; exact Calls.quiet_of_same ((hvc.out _).mono fun _ _ h => ⟨h.1, h.2.symm⟩))))
                go_wp2_with fail
                go_ret
                exact ⟨by rw [hr.out]; rfl, below_drewN HB.out _⟩
      · have hr := Lib.hid (show goodL l = true by
          have h := H.out
          rw [show k = l.length by omega] at h
          exact goodL_yes h8 h)
        go_wp2
        go_ret
        exact ⟨by rw [hr.out]; rfl, hb⟩
  · have d8 : decide ((8 : Int) < (l.length : Int)) = true := by simp; omega
    have hr := Lib.hid (goodL_long (l := l) (by omega))
    go_enter Tryz.func86, Tryz.ntmps86
    go_wp2
    go_ret
    exact ⟨by rw [hr.out]; rfl, Below.refl _ _⟩

end Go.Proofs.YtjeefgamkoeiaaaGreatDoor
