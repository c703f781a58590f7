/- The reference's small functions on labels: text, number, Name, Value, Get. -/
import Derived.Test.YtaloimbffijalaaDoorLabelA
import Derived.Test.YtaloimbffijalaaDoorRefUtfBd
import Derived.Deep.QuietTactic
import Derived.BigQuiet
set_option maxRecDepth 100000
set_option linter.unusedVariables false
set_option linter.unusedSimpArgs false
namespace Go.Proofs.YtaloimbffijalaaDoor
open Go.RowKit Go.Sort

set_option maxHeartbeats 1000000 in
theorem rtext_calls (a b : List UInt8) (w : World) :
    Calls Tryd.prog 30 #[.string (str a), .string (str b)] w fun e w' => e = .returned (.int .i64 (cb a b)) ∧ w = w' := by
  rcases cb_range a b with h | h | h
  · have h1 : Op.bytesLess a b = true := by rw [bl_cb, h]; rfl
    rw [h]; clear h
    go_enter Tryd.func30, Tryd.ntmps30
    go_wp2
    go_ret
    exact ⟨rfl, rfl⟩
  · have h1 : Op.bytesLess a b = false := by rw [bl_cb, h]; rfl
    have h2 : (a == b) = true := beq_iff_eq.2 (cb_eq a b h)
    rw [h]; clear h
    go_enter Tryd.func30, Tryd.ntmps30
    go_wp2
    go_ret
    exact ⟨rfl, rfl⟩
  · have h1 : Op.bytesLess a b = false := by rw [bl_cb, h]; rfl
    have h2 : (a == b) = false := beq_eq_false_iff_ne.2 (fun e => by rw [e, cb_refl] at h; exact absurd h (by decide))
    rw [h]; clear h
    go_enter Tryd.func30, Tryd.ntmps30
    go_wp2
    go_ret
    exact ⟨rfl, rfl⟩
/-- which of two numbers is less -/
def nuI (a b : Int) : Int := if a < b then -1 else if b < a then 1 else 0
set_option maxHeartbeats 1000000 in
theorem rnumber_calls (a b : Int) (w : World) :
    Calls Tryd.prog 31 #[.int .i64 a, .int .i64 b] w fun e w' => e = .returned (.int .i64 (nuI a b)) ∧ w = w' := by
  by_cases h1 : a < b
  · have e : nuI a b = -1 := if_pos h1
    rw [e]; clear e
    have d1 : decide (a < b) = true := decide_eq_true h1
    go_enter Tryd.func31, Tryd.ntmps31
    go_wp2
    go_ret
    exact ⟨rfl, rfl⟩
  · by_cases h2 : b < a
    · have e : nuI a b = 1 := by unfold nuI; rw [if_neg h1, if_pos h2]
      rw [e]; clear e
      have d1 : decide (a < b) = false := decide_eq_false h1
      have d2 : decide (b < a) = true := decide_eq_true h2
      go_enter Tryd.func31, Tryd.ntmps31
      go_wp2
      go_ret
      exact ⟨rfl, rfl⟩
    · have e : nuI a b = 0 := by unfold nuI; rw [if_neg h1, if_neg h2]
      rw [e]; clear e
      have d1 : decide (a < b) = false := decide_eq_false h1
      have d2 : decide (b < a) = false := decide_eq_false h2
      go_enter Tryd.func31, Tryd.ntmps31
      go_wp2
      go_ret
      exact ⟨rfl, rfl⟩
theorem nameOk_ctl {l : List UInt8} (h : ctl l = true) : nameOk l = false := by unfold nameOk; rw [h]; simp
theorem nameOk_no {l : List UInt8} (h : ctl l = false) : nameOk l = (decide (1 ≤ l.length) && decide (l.length ≤ 60) && decide (Utf.bad l < 0)) := by unfold nameOk; rw [h]; simp
set_option maxHeartbeats 2000000 in
theorem rname_calls (l : List UInt8) (w : World) (hl : l.length ≤ maxLen) :
    Calls Tryd.prog 21 #[.string (str l)] w fun e w' => e = .returned (.bool (nameOk l)) ∧ w = w' := by
  have hsz := str_size l
  have hb := Lib.hid (fun W => bad_ref (str l) W (by rw [hsz]; exact hl))
  unfold maxLen at hl
  go_enter Tryd.func21, Tryd.ntmps21
  go_wp2_with fail
  go_loop [3] (fun v => ∃ k : Nat, k ≤ l.length ∧ v = .int .i64 (k : Nat) ∧ Hid (ctl (l.take k) = false)) (fun v => l.length - (intOf v).toNat)
  case atStart => exact ⟨0, Nat.zero_le _, rfl, rfl⟩
  case round =>
    obtain ⟨k, hk, rfl, H⟩ := hrel
    by_cases h : k < l.length
    · have hin : k < (str l).size := by rw [hsz]; exact h
      have ht := Lib.hid (ctl_take l k hin H.out)
      by_cases h1 : ((str l)[k].toNat : Int) < 32
      · have d1 : decide (((str l)[k].toNat : Int) < 32) = true := decide_eq_true h1
        have hr := Lib.hid (nameOk_ctl (ctl_some (l := l) (k := k + 1) (by rw [ht.out, d1]; rfl)))
        go_wp2
        go_ret
        exact ⟨by rw [hr.out]; rfl, rfl⟩
      · have d1 : decide (((str l)[k].toNat : Int) < 32) = false := decide_eq_false h1
        by_cases h2 : ((str l)[k].toNat : Int) = 127
        · have d2 : decide (((str l)[k].toNat : Int) = 127) = true := decide_eq_true h2
          have hr := Lib.hid (nameOk_ctl (ctl_some (l := l) (k := k + 1) (by rw [ht.out, d2]; simp)))
          go_wp2
          go_ret
          exact ⟨by rw [hr.out]; rfl, rfl⟩
        · have d2 : decide (((str l)[k].toNat : Int) = 127) = false := decide_eq_false h2
          have hn := Lib.hid (show ctl (l.take (k + 1)) = false by rw [ht.out, d1, d2]; rfl)
          go_wp2
          go_round
          case rel => exact ⟨k + 1, h, by go_num, hn.out⟩
          case measure => simp [intOf]; omega
    · have hr := Lib.hid (nameOk_no (show ctl l = false by have := H.out; rwa [List.take_of_length_le (by omega)] at this))
      clear H
      by_cases h1 : 1 ≤ l.length
      · have d1 : decide ((1 : Int) ≤ (l.length : Int)) = true := by simp; omega
        by_cases h2 : l.length ≤ 60
        · have d2 : decide ((l.length : Int) ≤ 60) = true := by simp; omega
          have hr2 := Lib.hid (show nameOk l = decide (Utf.bad l < 0) by rw [hr.out, decide_eq_true h1, decide_eq_true h2]; rfl)
          clear hr
          generalize Utf.bad l = B at *
          go_wp2_with fail
          refine (hb.out _).mono ?_; rintro e w1 ⟨rfl, rfl⟩
          go_wp2
          go_ret
          exact ⟨by rw [hr2.out]; rfl, rfl⟩
        · have d2 : decide ((l.length : Int) ≤ 60) = false := by simp; omega
          have hr2 := Lib.hid (show nameOk l = false by rw [hr.out, decide_eq_false h2]; simp)
          clear hr
          go_wp2
          go_ret
          exact ⟨by rw [hr2.out]; rfl, rfl⟩
      · have d1 : decide ((1 : Int) ≤ (l.length : Int)) = false := by simp; omega
        have hr2 := Lib.hid (show nameOk l = false by rw [hr.out, decide_eq_false h1]; simp)
        clear hr
        go_wp2
        go_ret
        exact ⟨by rw [hr2.out]; rfl, rfl⟩
set_option maxHeartbeats 2000000 in
theorem rvalue_calls (l : List UInt8) (w : World) (hl : l.length ≤ maxLen) :
    Calls Tryd.prog 23 #[.string (str l)] w fun e w' => e = .returned (.bool (valueOk l)) ∧ w = w' := by
  have hsz := str_size l
  have hb := Lib.hid (bad_ref (str l) w (by rw [hsz]; exact hl))
  unfold maxLen at hl
  by_cases h2 : l.length ≤ 60
  · have d2 : decide ((l.length : Int) ≤ 60) = true := by simp; omega
    have e : valueOk l = decide (Utf.bad l < 0) := by unfold valueOk; rw [decide_eq_true h2]; rfl
    rw [e]; clear e
    generalize Utf.bad l = B at *
    go_enter Tryd.func23, Tryd.ntmps23
    go_wp2_with fail
    refine hb.out.mono ?_; rintro e w1 ⟨rfl, rfl⟩
    go_wp2
    go_ret
    exact ⟨rfl, rfl⟩
  · have d2 : decide ((l.length : Int) ≤ 60) = false := by simp; omega
    have e : valueOk l = false := by unfold valueOk; rw [decide_eq_false h2]; simp
    rw [e]; clear e
    go_enter Tryd.func23, Tryd.ntmps23
    go_wp2
    go_ret
    exact ⟨rfl, rfl⟩
set_option maxHeartbeats 4000000 in
theorem rget_calls (l : List Lb) (v : Value) (n : List UInt8) (w : World) (hv : LbRow w v l) :
    Calls Tryd.prog 12 #[v, .string (str n)] w fun e w' => e = .returned (.tuple #[.string (str (getL l n).1), .bool (getL l n).2]) ∧ w = w' := by
  obtain ⟨A, cap, rfl, hlc, hcm, hnil, hrow⟩ := hv
  unfold maxLen at hcm
  have HR := Lib.hid hrow
  clear hrow hnil
  go_enter Tryd.func12, Tryd.ntmps12
  go_wp2_with fail
  go_loop [6] (fun v => ∃ k : Nat, k ≤ l.length ∧ v = .int .i64 (k : Nat) ∧ Hid (getL l n = getL (l.drop k) n)) (fun v => l.length - (intOf v).toNat)
  case atStart => exact ⟨0, Nat.zero_le _, rfl, rfl⟩
  case round =>
    obtain ⟨k, hk, rfl, H⟩ := hrel
    by_cases hkl : k < l.length
    · obtain ⟨b, off, rfl, hbs, hc⟩ := HR.out (by omega)
      obtain ⟨c0, c1⟩ := hc k (lbAt l k) (at_get hkl)
      have ha := Lib.hid (getL_at hkl H.out)
      generalize lbAt l k = X at *
      obtain ⟨X1, X2⟩ := X
      simp only at c0 c1 ha
      clear hc
      by_cases hx : X1 = n
      · have hr := Lib.hid (ha.out.1 hx)
        have heq : (X1 == n) = true := beq_iff_eq.2 hx
        clear hx ha
        go_wp2
        go_ret2
        exact ⟨by rw [hr.out]; rfl, rfl⟩
      · have hr := Lib.hid (ha.out.2 hx)
        have heq : (X1 == n) = false := beq_eq_false_iff_ne.2 hx
        clear hx ha
        go_wp2
        go_round
        case rel => exact ⟨k + 1, hkl, by go_num, hr.out⟩
        case measure => simp [intOf]; omega
    · have hr := Lib.hid (getL_end (by omega) H.out)
      go_wp2
      go_ret2
      exact ⟨by rw [hr.out]; rfl, rfl⟩

end Go.Proofs.YtaloimbffijalaaDoor
