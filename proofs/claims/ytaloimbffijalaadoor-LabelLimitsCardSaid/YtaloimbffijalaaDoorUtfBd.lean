/- The walk of package utf's Bad. -/
import Derived.Test.YtaloimbffijalaaDoorUtfB
import Derived.Test.YtaloimbffijalaaDoorUtfPlainC
set_option linter.unusedVariables false
set_option linter.unusedSimpArgs false
namespace Go.Proofs.YtaloimbffijalaaDoor
open Go.RowKit

set_option maxHeartbeats 1000000 in
theorem bad_calls (s : ByteArray) (w : World) (hs : s.size ≤ maxLen) (hT : ShapesIn w) :
    Calls Tryd.prog 32 #[.string s] w fun e w' => e = .returned (.int .i64 (Utf.bad s.data.toList)) ∧ Below w.heap.size w w' := by
  have hs' := hs
  unfold maxLen at hs'
  have hroom := hT.room
  go_enter Tryd.func32, Tryd.ntmps32
  go_wp2_with fail
  go_loopw [3] (fun v wr => ∃ k n : Nat, Utf.Far s.data.toList k n ∧ v = .int .i64 k ∧ Below w.heap.size w wr) (fun v _ => s.size - (intOf v).toNat)
  case atStart => exact ⟨0, 0, Utf.far_zero _, rfl, Below.refl _ _⟩
  case round =>
    obtain ⟨k, n, hf, rfl, hb⟩ := hrel
    have hsl := Utf.size_len s
    have Hf := Lib.hid hf
    have hin := hf.inL
    rw [hsl] at hin
    have hTr := hT.below hb hroom
    have hz : w.heap.size ≤ wr.heap.size := hb.size
    clear hf
    by_cases h1 : k < s.size
    · have h1' : k < s.data.toList.length := by omega
      have hle := (Utf.front_le (s.data.toList.drop k)).1
      rw [List.length_drop, hsl] at hle
      have fc := fit_calls s k wr h1 hs hTr
      cases hw : (Utf.front (s.data.toList.drop k)).2
      · rw [hw] at fc
        have Hb := Lib.hid (Utf.far_no Hf.out h1' hw)
        obtain ⟨m, hm⟩ : ∃ m, (Utf.front (s.data.toList.drop k)).1 = m := ⟨_, rfl⟩
        rw [hm] at fc hle
        have Hm := Lib.hid hm
        have Fc := Lib.hid fc
        clear fc hw hsl hm hTr
        go_wp2_with (go_at_call 40; refine Fc.out.mono ?_; rintro e w1 ⟨rfl, hb1⟩)
        go_ret
        exact ⟨by rw [Hb.out.1, Hm.out]; rfl, hb.trans (hb1.mono hz)⟩
      · rw [hw] at fc
        have Hy := Lib.hid (Utf.far_yes Hf.out h1' hw)
        have hwp := Utf.front_whole hw
        obtain ⟨m, hm⟩ : ∃ m, (Utf.front (s.data.toList.drop k)).1 = m := ⟨_, rfl⟩
        rw [hm] at fc hle hwp
        have Hm := Lib.hid hm
        have Fc := Lib.hid fc
        clear fc hw hsl hm hTr
        go_wp2_with (go_at_call 40; refine Fc.out.mono ?_; rintro e w1 ⟨rfl, hb1⟩)
        go_roundw
        case rel => exact ⟨k + m, n + 1, by have := Hy.out; rw [Hm.out] at this; exact this, by go_num, hb.trans (hb1.mono hz)⟩
        case measure => simp [intOf]; omega
    · have Hb := Lib.hid (Utf.far_end Hf.out (by omega))
      clear hsl hTr
      go_wp2
      go_ret
      exact ⟨by rw [Hb.out.1]; rfl, hb⟩

end Go.Proofs.YtaloimbffijalaaDoor
