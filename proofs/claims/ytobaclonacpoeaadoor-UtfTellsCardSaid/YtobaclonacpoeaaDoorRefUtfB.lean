/- The reference's functions on UTF-8: Bad, Count. -/
import Derived.Test.YtobaclonacpoeaaDoorRefUtfA
import Derived.Test.YtobaclonacpoeaaDoorUtfPlainC
namespace Go.Proofs.YtobaclonacpoeaaDoor
open Go.RowKit

set_option maxHeartbeats 1000000 in
theorem bad_ref (s : ByteArray) (w : World) (hs : s.size ≤ maxLen) :
    Calls Tryd.prog 14 #[.string s] w fun e w' => e = .returned (.int .i64 (Utf.bad s.data.toList)) ∧ w = w' := by
  have hs' := hs
  unfold maxLen at hs'
  go_enter Tryd.func14, Tryd.ntmps14
  go_wp2_with fail
  go_loop [3] (fun v => ∃ k n : Nat, Utf.Far s.data.toList k n ∧ v = .int .i64 k) (fun v => s.size - (intOf v).toNat)
  case atStart => exact ⟨0, 0, Utf.far_zero _, rfl⟩
  case round =>
    obtain ⟨k, n, hf, rfl⟩ := hrel
    have hsl := Utf.size_len s
    have Hf := Lib.hid hf
    have hin := hf.inL
    rw [hsl] at hin
    clear hf
    by_cases h1 : k < s.size
    · have h1' : k < s.data.toList.length := by omega
      have hle := (Utf.front_le (s.data.toList.drop k)).1
      rw [List.length_drop, hsl] at hle
      have fc := front_ref s k w h1 hs
      cases hw : (Utf.front (s.data.toList.drop k)).2
      · rw [hw] at fc
        have Hb := Lib.hid (Utf.far_no Hf.out h1' hw)
        obtain ⟨m, hm⟩ : ∃ m, (Utf.front (s.data.toList.drop k)).1 = m := ⟨_, rfl⟩
        rw [hm] at fc hle
        have Hm := Lib.hid hm
        have Fc := Lib.hid fc
        clear fc hw hsl hm
        go_wp2_with (go_at_call 19; refine Fc.out.mono ?_; rintro e w1 ⟨rfl, rfl⟩)
        go_ret
        exact ⟨by rw [Hb.out.1, Hm.out]; rfl, rfl⟩
      · rw [hw] at fc
        have Hy := Lib.hid (Utf.far_yes Hf.out h1' hw)
        have hwp := Utf.front_whole hw
        obtain ⟨m, hm⟩ : ∃ m, (Utf.front (s.data.toList.drop k)).1 = m := ⟨_, rfl⟩
        rw [hm] at fc hle hwp
        have Hm := Lib.hid hm
        have Fc := Lib.hid fc
        clear fc hw hsl hm
        go_wp2_with (go_at_call 19; refine Fc.out.mono ?_; rintro e w1 ⟨rfl, rfl⟩)
        go_round
        case rel => exact ⟨k + m, n + 1, by have := Hy.out; rw [Hm.out] at this; exact this, by go_num⟩
        case measure => simp [intOf]; omega
    · have Hb := Lib.hid (Utf.far_end Hf.out (by omega))
      clear hsl
      go_wp2
      go_ret
      exact ⟨by rw [Hb.out.1]; rfl, rfl⟩

set_option maxHeartbeats 1000000 in
theorem count_ref (s : ByteArray) (w : World) (hs : s.size ≤ maxLen) :
    Calls Tryd.prog 16 #[.string s] w fun e w' => e = .returned (.int .i64 (Utf.count s.data.toList)) ∧ w = w' := by
  have hs' := hs
  unfold maxLen at hs'
  have bd := bad_ref s w hs
  cases hg : (Utf.steps s.data.toList).2.2
  · have e1 : Utf.count s.data.toList = -1 := by simp [Utf.count, hg]
    have e2 : 0 ≤ Utf.bad s.data.toList := by simp [Utf.bad, hg]
    rw [e1]
    generalize Utf.bad s.data.toList = B at *
    have Bd := Lib.hid bd
    clear bd e1 hg
    go_enter Tryd.func16, Tryd.ntmps16
    go_wp2_with (go_at_call 14; refine Bd.out.mono ?_; rintro e w1 ⟨rfl, rfl⟩)
    go_ret
    exact ⟨rfl, rfl⟩
  · have e2 : Utf.bad s.data.toList = -1 := by simp [Utf.bad, hg]
    rw [e2] at bd
    have Bd := Lib.hid bd
    have Hg := Lib.hid hg
    clear bd e2 hg
    go_enter Tryd.func16, Tryd.ntmps16
    go_wp2_with (go_at_call 14; refine Bd.out.mono ?_; rintro e w1 ⟨rfl, rfl⟩)
    go_loop [3, 4] (fun c v => ∃ k n : Nat, Utf.Far s.data.toList k n ∧ n ≤ k ∧ v = .int .i64 k ∧ c = .int .i64 n) (fun _ v => s.size - (intOf v).toNat)
    case atStart => exact ⟨0, 0, Utf.far_zero _, by omega, rfl, rfl⟩
    case round =>
      obtain ⟨k, n, hf, hnk, rfl, rfl⟩ := hrel
      have hsl := Utf.size_len s
      have Hf := Lib.hid hf
      have hin := hf.inL
      rw [hsl] at hin
      clear hf
      by_cases h1 : k < s.size
      · have h1' : k < s.data.toList.length := by omega
        have hle := (Utf.front_le (s.data.toList.drop k)).1
        rw [List.length_drop, hsl] at hle
        have fc := front_ref s k w h1 hs
        cases hw : (Utf.front (s.data.toList.drop k)).2
        · exfalso
          have := (Utf.far_no Hf.out h1' hw).2
          rw [Utf.count, Hg.out] at this
          simp at this
        · rw [hw] at fc
          have Hy := Lib.hid (Utf.far_yes Hf.out h1' hw)
          have hwp := Utf.front_whole hw
          obtain ⟨m, hm⟩ : ∃ m, (Utf.front (s.data.toList.drop k)).1 = m := ⟨_, rfl⟩
          rw [hm] at fc hle hwp
          have Hm := Lib.hid hm
          have Fc := Lib.hid fc
          clear fc hw hsl hm
          go_wp2_with (go_at_call 19; refine Fc.out.mono ?_; rintro e w1 ⟨rfl, rfl⟩)
          go_round
          case rel => exact ⟨k + m, n + 1, by have := Hy.out; rw [Hm.out] at this; exact this, by omega, by go_num, by go_num⟩
          case measure => simp [intOf]; omega
      · have Hb := Lib.hid (Utf.far_end Hf.out (by omega))
        clear hsl
        go_wp2
        go_ret
        exact ⟨by rw [Hb.out.2]; rfl, rfl⟩

end Go.Proofs.YtobaclonacpoeaaDoor
