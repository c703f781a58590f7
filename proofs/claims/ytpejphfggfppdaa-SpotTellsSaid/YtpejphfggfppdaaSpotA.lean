/- The walks of strings.LastIndexByte and of strings.Count at one byte. -/
import Derived.Test.YtpejphfggfppdaaChecked
import Derived.Test.YtpejphfggfppdaaSpotPlain
import Derived.Test.YtpejphfggfppdaaBase
import Derived.WalkKit
import Derived.Lib.Hide
import Derived.Lib.Bytealg
import Derived.Lib.Strings
import Derived.IntWalk
import Derived.Below
namespace Go.Proofs.Ytpejphfggfppdaa
open Go.RowKit


set_option maxHeartbeats 1000000 in
theorem lastIn_calls (s : ByteArray) (c : UInt8) (w : World) (hs : s.size ≤ maxLen) :
    Calls Try.prog 17 #[.string s, .int .u8 c.toNat] w fun e w' => e = .returned (.int .i64 ((s.size : Int) - (Sp.tailC c s.data.toList : Int) - 1)) ∧ w = w' := by
  have hs' := hs
  unfold maxLen at hs'
  go_enter Try.func17, Try.ntmps17
  go_wp2
  go_loop [5] (fun i => ∃ k : Nat, k ≤ s.size ∧ i = .int .i64 ((k : Int) - 1) ∧ Hid (Sp.tailC c s.data.toList = (s.size - k) + Sp.tailC c (s.data.toList.take k))) (fun i => (intOf i + 1).toNat)
  case atStart => exact ⟨s.size, Nat.le_refl _, rfl, by rw [Sp.take_all]; show _ = _; omega⟩
  case round =>
    obtain ⟨k, hk, rfl, H⟩ := hrel
    rcases k with _ | j
    · go_wp2
      go_ret
      have h := H.out
      rw [List.take_zero, Sp.tailC_nil] at h
      exact ⟨ret_int (by omega), rfl⟩
    · have e : ((j + 1 : Nat) : Int) - 1 = (j : Int) := by omega
      have hj : j < s.size := hk
      rw [e]
      have hts := Sp.tailC_snoc c (s.data.toList.take j) s[j]
      rw [← Sp.take_snoc s j hj] at hts
      have Hts := Lib.hid hts
      clear e hts
      by_cases hc : s[j] = c
      · subst hc
        go_wp2
        go_ret
        have h := H.out
        rw [Hts.out, if_pos trivial] at h
        exact ⟨ret_int (by omega), rfl⟩
      · have d := byte_ne hc
        have d2 : ((s[j].toNat : Int) == (c.toNat : Int)) = false := by simpa using d
        go_wp2
        go_round
        case rel => exact ⟨j, by omega, rfl, by have h := H.out; rw [Hts.out, if_neg hc] at h; show _ = _; omega⟩
        case measure => simp [intOf]

set_option maxHeartbeats 1000000 in
theorem count_one_calls (s : ByteArray) (w : World) :
    Calls Try.prog 16 #[.string s, .string ⟨#[10]⟩] w fun e w' => e = .returned (.int .i64 (Sp.lfs s.data.toList : Int)) ∧ w = w' := by
  go_enter Try.func16, Try.ntmps16
  go_wp2
  rw [run_callFunc_extern Try.func19 (by kernel_rfl) (by kernel_rfl) (by kernel_rfl) (e := Extern.BytealgCount.count) (by kernel_rfl), Lib.run_countString]
  simp only [Result.andThen]
  rw [Oper.upon_value]
  go_wp2
  go_ret
  exact ⟨rfl, rfl⟩

end Go.Proofs.Ytpejphfggfppdaa
