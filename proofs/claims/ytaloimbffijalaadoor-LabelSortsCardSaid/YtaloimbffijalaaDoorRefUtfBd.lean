/- The reference's Bad on UTF-8. -/
import Derived.Test.YtaloimbffijalaaDoorRefUtfA
import Derived.Test.YtaloimbffijalaaDoorUtfPlainC
set_option linter.unusedVariables false
set_option linter.unusedSimpArgs false
namespace Go.Proofs.YtaloimbffijalaaDoor
open Go.RowKit

set_option maxHeartbeats 1000000 in
theorem bad_ref (s : ByteArray) (w : World) (hs : s.size ≤ maxLen) :
    Calls Tryd.prog 34 #[.string s] w fun e w' => e = .returned (.int .i64 (Utf.bad s.data.toList)) ∧ w = w' := by
  have hs' := hs
  unfold maxLen at hs'
  go_enter Tryd.func34, Tryd.ntmps34
  go_wp2_with fail
  go_loop [3] (fun v => ∃ k n : Nat, Utf.Far s.data.toList k n ∧ v = .int .i64 k) (fun v => s.size - (intOf v).toNat)
  case atStart => exact ⟨0, 0, Utf.far_zero _, rfl⟩
  case round =>
    obtain ⟨k, n, hf, rfl⟩ := hrel
    have hsl := Utf.size_len s
    have Hf := Lib.hid hf
    have hin := hf.inL
    rw [hsl] at hin
    clear hf
    by_cases h1 : k < s.size
    · have h1' : k < s.data.toList.length := by omega
      have hle := (Utf.front_le (s.data.toList.drop k)).1
      rw [List.length_drop, hsl] at hle
      have fc := front_ref s k w h1 hs
      cases hw : (Utf.front (s.data.toList.drop k)).2
      · rw [hw] at fc
        have Hb := Lib.hid (Utf.far_no Hf.out h1' hw)
        obtain ⟨m, hm⟩ : ∃ m, (Utf.front (s.data.toList.drop k)).1 = m := ⟨_, rfl⟩
        rw [hm] at fc hle
        have Hm := Lib.hid hm
        have Fc := Lib.hid fc
        clear fc hw hsl hm
        go_wp2_with (go_at_call 41; refine Fc.out.mono ?_; rintro e w1 ⟨rfl, rfl⟩)
        go_ret
        exact ⟨by rw [Hb.out.1, Hm.out]; rfl, rfl⟩
      · rw [hw] at fc
        have Hy := Lib.hid (Utf.far_yes Hf.out h1' hw)
        have hwp := Utf.front_whole hw
        obtain ⟨m, hm⟩ : ∃ m, (Utf.front (s.data.toList.drop k)).1 = m := ⟨_, rfl⟩
        rw [hm] at fc hle hwp
        have Hm := Lib.hid hm
        have Fc := Lib.hid fc
        clear fc hw hsl hm
        go_wp2_with (go_at_call 41; refine Fc.out.mono ?_; rintro e w1 ⟨rfl, rfl⟩)
        go_round
        case rel => exact ⟨k + m, n + 1, by have := Hy.out; rw [Hm.out] at this; exact this, by go_num⟩
        case measure => simp [intOf]; omega
    · have Hb := Lib.hid (Utf.far_end Hf.out (by omega))
      clear hsl
      go_wp2
      go_ret
      exact ⟨by rw [Hb.out.1]; rfl, rfl⟩

end Go.Proofs.YtaloimbffijalaaDoor
