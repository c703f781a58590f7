/- The walks of package label's Get, of slices.Index and slices.Contains at strings. -/
import Derived.Test.YtaloimbffijalaaDoorLabelB
set_option maxRecDepth 100000
set_option linter.unusedVariables false
set_option linter.unusedSimpArgs false
namespace Go.Proofs.YtaloimbffijalaaDoor
open Go.RowKit Go.Sort
attribute [local go_sem ↓] Go.wp_at_zero Go.wp_at_succ

set_option maxHeartbeats 4000000 in
theorem get_calls (l : List Lb) (v : Value) (n : List UInt8) (w : World) (hv : LbRow w v l) :
    Calls Tryd.prog 11 #[v, .string (str n)] w fun e w' => e = .returned (.tuple #[.string (str (getL l n).1), .bool (getL l n).2]) ∧ Below w.heap.size w w' := by
  obtain ⟨A, cap, rfl, hlc, hcm, hnil, hrow⟩ := hv
  unfold maxLen at hcm
  have HR := Lib.hid hrow
  clear hrow hnil
  go_enter Tryd.func11, Tryd.ntmps11
  go_wp2_with fail
  go_loopw [10] (fun v wr => ∃ k : Nat, k ≤ l.length ∧ v = .int .i64 (k : Nat) ∧ Hid (getL l n = getL (l.drop k) n) ∧ Below w.heap.size w wr) (fun v _ => l.length - (intOf v).toNat)
  case atStart => exact ⟨0, Nat.zero_le _, rfl, rfl, Below.refl _ _⟩
  case round =>
    obtain ⟨k, hk, rfl, H, hb⟩ := hrel
    by_cases hkl : k < l.length
    · obtain ⟨b, off, rfl, hbs, hc⟩ := HR.out (by omega)
      obtain ⟨c0, c1⟩ := hc k (lbAt l k) (at_get hkl)
      have c0 := (hb.cell (p := ⟨b, off + k * 2, none⟩) hbs).trans c0
      have c1 := (hb.cell (p := ⟨b, off + k * 2 + 1, none⟩) hbs).trans c1
      have ha := Lib.hid (getL_at hkl H.out)
      generalize lbAt l k = X at *
      obtain ⟨X1, X2⟩ := X
      simp only at c0 c1 ha
      have hb1 := Lib.hid (kp_alloc hb (.cells #[.string (str X1), .string (str X2)] 38))
      have HB := Lib.hid hb
      clear hc hb
      by_cases hx : X1 = n
      · have hr := Lib.hid (ha.out.1 hx)
        have heq : (X1 == n) = true := beq_iff_eq.2 hx
        clear hx ha
        go_wp2
        go_ret2
        exact ⟨by rw [hr.out]; rfl, hb1.out⟩
      · have hr := Lib.hid (ha.out.2 hx)
        have heq : (X1 == n) = false := beq_eq_false_iff_ne.2 hx
        clear hx ha
        go_wp2
        go_roundw
        case rel => exact ⟨k + 1, hkl, by go_num, hr.out, hb1.out⟩
        case measure => simp [intOf]; omega
    · have hr := Lib.hid (getL_end (by omega) H.out)
      go_wp2
      go_ret2
      exact ⟨by rw [hr.out]; rfl, hb⟩

/-- is it among the first texts of a row? -/
def inN (es : Nat → ByteArray) : Nat → List UInt8 → Bool
  | 0, _ => false
  | n + 1, x => inN es n x || decide ((es n).data.toList = x)
theorem inN_out {es : Nat → ByteArray} {x : List UInt8} : ∀ {n j : Nat}, j < n → (es j).data.toList = x → inN es n x = true
  | 0, j, h, _ => absurd h (Nat.not_lt_zero _)
  | n + 1, j, h, e => by
    rw [inN]
    by_cases c : j = n
    · subst c; rw [decide_eq_true e]; simp
    · rw [inN_out (by omega) e]; rfl
set_option maxHeartbeats 4000000 in
theorem index_calls (n : Nat) (es : Nat → ByteArray) (v : Value) (x : List UInt8) (w : World) (hv : StrRow w v n es) :
    Calls Tryd.prog 38 #[v, .string (str x)] w fun e w' => (∃ j : Int, e = .returned (.int .i64 j) ∧ decide (0 ≤ j) = inN es n x) ∧ w = w' := by
  obtain ⟨A, cap, rfl, hlc, hcm, hrow⟩ := hv
  unfold maxLen at hcm
  have HR := Lib.hid hrow
  clear hrow
  go_enter Tryd.func38, Tryd.ntmps38
  go_wp2_with fail
  go_loop [8] (fun v => ∃ k : Nat, k ≤ n ∧ v = .int .i64 (k : Nat) ∧ Hid (inN es k x = false)) (fun v => n - (intOf v).toNat)
  case atStart => exact ⟨0, Nat.zero_le _, rfl, rfl⟩
  case round =>
    obtain ⟨k, hk, rfl, H⟩ := hrel
    by_cases hkl : k < n
    · obtain ⟨b, off, rfl, hbs, hc⟩ := HR.out (by omega)
      have c0 := (hc k hkl).1
      rw [str_self (es k)] at c0
      by_cases hx : (es k).data.toList = x
      · have heq : (x == (es k).data.toList) = true := beq_iff_eq.2 hx.symm
        have hr := Lib.hid (inN_out (n := n) hkl hx)
        clear hx hc
        generalize (es k).data.toList = y at *
        go_wp2
        go_ret
        exact ⟨⟨_, rfl, by rw [hr.out]; simp⟩, rfl⟩
      · have heq : (x == (es k).data.toList) = false := beq_eq_false_iff_ne.2 (fun h => hx h.symm)
        have hr := Lib.hid (show inN es (k + 1) x = false by rw [inN, H.out, decide_eq_false hx]; rfl)
        clear hx hc
        generalize (es k).data.toList = y at *
        go_wp2
        go_round
        case rel => exact ⟨k + 1, hkl, by go_num, hr.out⟩
        case measure => simp [intOf]; omega
    · obtain rfl : k = n := by omega
      go_wp2
      go_ret
      exact ⟨⟨_, rfl, by rw [H.out]; rfl⟩, rfl⟩
set_option maxHeartbeats 1000000 in
theorem contains_calls (n : Nat) (es : Nat → ByteArray) (v : Value) (x : List UInt8) (w : World) (hv : StrRow w v n es) :
    Calls Tryd.prog 27 #[v, .string (str x)] w fun e w' => e = .returned (.bool (inN es n x)) ∧ w = w' := by
  have hi := Lib.hid (index_calls n es v x w hv)
  clear hv
  go_enter Tryd.func27, Tryd.ntmps27
  go_wp2_with fail
  refine hi.out.mono ?_
  rintro e w1 ⟨⟨j, rfl, hj⟩, rfl⟩
  go_wp2
  go_ret
  exact ⟨by first | rfl | (rw [← hj]; rfl) | simp, rfl⟩

end Go.Proofs.YtaloimbffijalaaDoor
