/- The walks of the reference's isDigit, run. -/
import Derived.Test.YtmbpldnclnahmaaDoorRefDecE2
import Derived.Lib.Strings
set_option linter.unusedVariables false
set_option linter.unusedSimpArgs false
namespace Go.Proofs.YtmbpldnclnahmaaDoor
open Go.RowKit Dc

set_option maxHeartbeats 1000000 in
theorem risdigit_calls (c : UInt8) (w : World) :
    Calls Tryd.prog 35 #[.int .u8 c.toNat] w fun e w' => e = .returned (.bool (dg c)) ∧ w = w' := by
  by_cases h1 : 48 ≤ (c.toNat : Int)
  · by_cases h2 : (c.toNat : Int) ≤ 57
    · have e : dg c = true := (dg_iff c).2 ⟨by omega, by omega⟩
      rw [e]; clear e
      go_enter Tryd.func35, Tryd.ntmps35
      go_wp2
      go_ret
      exact ⟨rfl, rfl⟩
    · have e : dg c = false := by unfold dg; simp; omega
      rw [e]; clear e
      go_enter Tryd.func35, Tryd.ntmps35
      go_wp2
      go_ret
      exact ⟨rfl, rfl⟩
  · have e : dg c = false := by unfold dg; simp; omega
    rw [e]; clear e
    go_enter Tryd.func35, Tryd.ntmps35
    go_wp2
    go_ret
    exact ⟨rfl, rfl⟩

theorem rdrop_at (s : ByteArray) (k : Nat) (h : k < s.size) : s.data.toList.drop k = s[k] :: s.data.toList.drop (k + 1) := by
  have hl : k < s.data.toList.length := by rw [← Lib.size_eq]; exact h
  rw [List.drop_eq_getElem_cons hl]; rfl
set_option maxHeartbeats 1000000 in
theorem rrun_calls (s : ByteArray) (i : Nat) (w : World) (hi : i ≤ s.size) (hs : s.size ≤ maxLen) :
    Calls Tryd.prog 24 #[.string s, .int .i64 i] w fun e w' => e = .returned (.int .i64 ((i + dgN (s.data.toList.drop i) : Nat) : Int)) ∧ w = w' := by
  have hs' := hs
  unfold maxLen at hs'
  go_enter Tryd.func24, Tryd.ntmps24
  go_wp2
  go_loop [1] (fun v => ∃ k : Nat, k ≤ s.size ∧ v = .int .i64 (k : Int) ∧ Hid (i + dgN (s.data.toList.drop i) = k + dgN (s.data.toList.drop k))) (fun v => s.size - (intOf v).toNat)
  case atStart => exact ⟨i, hi, rfl, rfl⟩
  case round =>
    obtain ⟨k, hk, rfl, H⟩ := hrel
    by_cases hks : k < s.size
    · have hd := Lib.hid (rdrop_at s k hks)
      have hc := Lib.hid (fun W => risdigit_calls s[k] W)
      cases hg : dg s[k] with
      | true =>
        have Hg := Lib.hid hg
        rw [hg] at hc
        clear hg
        go_wp2_with fail
        refine (hc.out _).mono ?_; rintro e w1 ⟨rfl, rfl⟩
        go_wp2_with fail
        go_round
        case rel => exact ⟨k + 1, hks, by go_num, by have h := H.out; rw [hd.out, dgN_cons, if_pos Hg.out] at h; show _ = _; omega⟩
        case measure => simp [intOf]; omega
      | false =>
        have Hg := Lib.hid hg
        rw [hg] at hc
        clear hg
        go_wp2_with fail
        refine (hc.out _).mono ?_; rintro e w1 ⟨rfl, rfl⟩
        go_wp2_with fail
        go_ret
        have h := H.out
        rw [hd.out, dgN_cons, if_neg (by rw [Hg.out]; simp)] at h
        exact ⟨ret_int (by omega), rfl⟩
    · obtain rfl : k = s.size := by omega
      go_wp2_with fail
      go_ret
      have h := H.out
      rw [List.drop_eq_nil_of_le (show s.data.toList.length ≤ s.size by rw [← Lib.size_eq]; exact Nat.le_refl _)] at h
      exact ⟨ret_int (by rw [show dgN [] = 0 from rfl] at h; omega), rfl⟩

end Go.Proofs.YtmbpldnclnahmaaDoor
