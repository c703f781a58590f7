/- The reference's function on UTF-8: Next. -/
import Derived.Test.YtobaclonacpoeaaDoorRefUtfB
import Derived.Laws.BitsLemmas
namespace Go.Proofs.YtobaclonacpoeaaDoor
open Go.RowKit

theorem ref_or_step (r c : Nat) (hr : r < 1048576) (hc : c < 256) : bits .or .i32 ((r : Int) * 64) (wrap32 (bits .and .u8 (c : Int) 63)) = ((r * 64 + c % 64 : Nat) : Int) := by
  rw [u8_and63 _ (by omega) (by omega), IntWalk.wrap32_in _ (by omega), bits_join .i32 31 (by decide) wraps_i32 6 _ _ (by omega) (by omega) (by omega) (by omega) (by omega) (by omega)]
  omega

theorem i32_mask5 (x : Int) (h0 : 0 ≤ x) (h1 : x < 256) : bits .and .i32 x 31 = x % 32 := bits_mask .i32 31 (by decide) wraps_i32 5 (by decide) x h0 (by omega)
theorem i32_mask4 (x : Int) (h0 : 0 ≤ x) (h1 : x < 256) : bits .and .i32 x 15 = x % 16 := bits_mask .i32 31 (by decide) wraps_i32 4 (by decide) x h0 (by omega)
theorem i32_mask3 (x : Int) (h0 : 0 ≤ x) (h1 : x < 256) : bits .and .i32 x 7 = x % 8 := bits_mask .i32 31 (by decide) wraps_i32 3 (by decide) x h0 (by omega)

set_option maxHeartbeats 4000000 in
theorem next_ref (s : ByteArray) (i : Int) (w : World) (hs : s.size ≤ maxLen) :
    Calls Tryd.prog 10 #[.string s, .int .i64 i] w fun e w' =>
      e = .returned (.tuple #[.int .i32 (Utf.next s.data.toList i).1, .int .i64 (Utf.next s.data.toList i).2.1]) ∧ w = w' := by
  have hs' := hs
  unfold maxLen at hs'
  have hsl := Utf.size_len s
  by_cases h0 : i < 0
  · have d0 : decide (i < 0) = true := by simpa using h0
    have hn : Utf.next s.data.toList i = (0, 0, false) := by unfold Utf.next; rw [if_neg (by omega)]
    have Hn := Lib.hid hn
    clear hn hsl
    go_enter Tryd.func10, Tryd.ntmps10
    go_wp2
    go_ret2
    exact ⟨by rw [Hn.out]; rfl, rfl⟩
  · have d0 : decide (i < 0) = false := by simpa using h0
    obtain ⟨k, rfl⟩ := Int.eq_ofNat_of_zero_le (by omega : 0 ≤ i)
    by_cases h1 : k < s.size
    · have d1 : decide ((s.size : Int) ≤ (k : Int)) = false := by simp; omega
      have hle := Utf.front_le (s.data.toList.drop k)
      rw [List.length_drop, hsl] at hle
      have fc := front_ref s k w h1 hs
      cases hw : (Utf.front (s.data.toList.drop k)).2
      · have hn : Utf.next s.data.toList k = (0, 0, false) := by unfold Utf.next; rw [if_neg (by simp [hw])]
        rw [hw] at fc
        have Hn := Lib.hid hn
        have Fc := Lib.hid fc
        clear hn hsl h0 fc hw
        go_enter Tryd.func10, Tryd.ntmps10
        go_wp2_with (go_at_call 19; refine Fc.out.mono ?_; rintro e w1 ⟨rfl, rfl⟩)
        go_ret2
        exact ⟨by rw [Hn.out]; rfl, rfl⟩
      · have hn : Utf.next s.data.toList k = (Utf.val ((s.data.toList.drop k).take (Utf.front (s.data.toList.drop k)).1), (Utf.front (s.data.toList.drop k)).1, true) := by
          unfold Utf.next; rw [if_pos ⟨by omega, by omega, by simpa using hw⟩]; simp
        have hwp := Utf.front_whole hw
        have hst := Utf.start_whole hw
        rw [hw] at fc
        have hk' : (k : Int) < (s.size : Int) := by omega
        have hby := Utf.byte_at s k h1
        have hh : (s.data.toList.drop k)[0]? = some s[k] := by rw [List.getElem?_drop]; exact hby
        have hst' := hst s[k] hh
        generalize hm : (Utf.front (s.data.toList.drop k)).1 = m at *
        have Hn := Lib.hid hn
        have Fc := Lib.hid fc
        have Hm := Lib.hid hm
        have Hst := Lib.hid hst'
        have Hsl := Lib.hid hsl
        have Hh := Lib.hid hh
        have hm4 := hle.2
        have hmk := hle.1
        clear hn hsl h0 hw hm hst hst' hby hh hle
        have hc256 := UInt8.toNat_lt s[k]
        have hlow256 : ∀ n, Utf.low n s[k].toNat < 256 := fun n => by
          unfold Utf.low; split
          · exact hc256
          · exact Nat.lt_of_le_of_lt (Nat.mod_le _ _) hc256
        have Hval := Lib.hid (Utf.val_start ((s.data.toList.drop k).take m) s[k] (by rw [List.getElem?_take_of_lt (by omega)]; exact Hh.out))
        have hTl : ((s.data.toList.drop k).take m).length = m := by rw [List.length_take, List.length_drop, Hsl.out]; omega
        rw [hTl] at Hval
        clear hTl
        rcases (by omega : m = 1 ∨ m = 2 ∨ m = 3 ∨ m = 4) with rfl | rfl | rfl | rfl
        · have hlow : (s[k].toNat : Int) = ((Utf.low 1 s[k].toNat : Nat) : Int) := by
            rfl
          have Hlow := Lib.hid hlow
          have Fc := Lib.hid fc
          clear fc hlow
          go_enter Tryd.func10, Tryd.ntmps10
          go_wp2_with (go_at_call 19; refine Fc.out.mono ?_; rintro e w1 ⟨rfl, rfl⟩)
          go_loop [8, 9] (fun v i => ∃ j r : Nat, 1 ≤ j ∧ j ≤ 1 ∧ r < 256 * 64 ^ (j - 1) ∧ i = .int .i64 j ∧ v = .int .i32 r ∧ Utf.val ((s.data.toList.drop k).take 1) = (Utf.joinOn (((s.data.toList.drop k).take 1).drop j) r : Nat)) (fun _ i => 1 - (intOf i).toNat)
          case atStart => exact ⟨1, Utf.low 1 s[k].toNat, by omega, by omega, by simpa using hlow256 1, rfl, congrArg (Value.int .i32) Hlow.out, by rw [← Hst.out]; exact Hval.out⟩
          case round =>
            obtain ⟨j, r, hj1, hj, hr, rfl, rfl, hval⟩ := hrel
            have Hv2 := Lib.hid hval
            clear hval
            by_cases hjm : j < 1
            · exfalso; omega
            · have Hv3 := Lib.hid (show Utf.val ((s.data.toList.drop k).take 1) = (r : Int) by rw [Hv2.out, List.drop_of_length_le (by simp; omega)]; rfl)
              have hjm2 : ¬ (j : Int) < 1 := by omega
              go_wp2
              go_ret2
              exact ⟨by rw [Hn.out]; simp only []; rw [Hv3.out]; rfl, rfl⟩
        · have hlow : bits .and .i32 (s[k].toNat : Int) 31 = ((Utf.low 2 s[k].toNat : Nat) : Int) := by
            rw [i32_mask5 _ (by omega) (by omega)]; rfl
          have Hlow := Lib.hid hlow
          have Fc := Lib.hid fc
          clear fc hlow
          go_enter Tryd.func10, Tryd.ntmps10
          go_wp2_with (go_at_call 19; refine Fc.out.mono ?_; rintro e w1 ⟨rfl, rfl⟩)
          go_loop [8, 9] (fun v i => ∃ j r : Nat, 1 ≤ j ∧ j ≤ 2 ∧ r < 256 * 64 ^ (j - 1) ∧ i = .int .i64 j ∧ v = .int .i32 r ∧ Utf.val ((s.data.toList.drop k).take 2) = (Utf.joinOn (((s.data.toList.drop k).take 2).drop j) r : Nat)) (fun _ i => 2 - (intOf i).toNat)
          case atStart => exact ⟨1, Utf.low 2 s[k].toNat, by omega, by omega, by simpa using hlow256 2, rfl, congrArg (Value.int .i32) Hlow.out, by rw [← Hst.out]; exact Hval.out⟩
          case round =>
            obtain ⟨j, r, hj1, hj, hr, rfl, rfl, hval⟩ := hrel
            have Hv2 := Lib.hid hval
            clear hval
            by_cases hjm : j < 2
            · have hjm' : (j : Int) < 2 := by omega
              have hks : k + j < s.size := by omega
              have hks' : (k : Int) + (j : Int) < (s.size : Int) := by omega
              have byj := Lib.hid (show ((s.data.toList.drop k).take 2)[j]? = some s[k + j] by rw [List.getElem?_take_of_lt hjm, List.getElem?_drop]; exact Utf.byte_at s (k + j) hks)
              have jr := Utf.join_room hj1 hjm (by omega) hr
              have jr1 := jr.1
              have Jr := Lib.hid jr.2
              clear jr hr
              go_wp2
              go_round
              case rel => exact ⟨j + 1, r * 64 + s[k + j].toNat % 64, by omega, by omega, Jr.out _ (Nat.mod_lt _ (by decide)), by go_num, by rw [ref_or_step _ _ jr1 (UInt8.toNat_lt _)], by rw [Hv2.out, Utf.joinOn_drop byj.out]⟩
              case measure => simp [intOf]; omega
            · have Hv3 := Lib.hid (show Utf.val ((s.data.toList.drop k).take 2) = (r : Int) by rw [Hv2.out, List.drop_of_length_le (by simp; omega)]; rfl)
              have hjm2 : ¬ (j : Int) < 2 := by omega
              go_wp2
              go_ret2
              exact ⟨by rw [Hn.out]; simp only []; rw [Hv3.out]; rfl, rfl⟩
        · have hlow : bits .and .i32 (s[k].toNat : Int) 15 = ((Utf.low 3 s[k].toNat : Nat) : Int) := by
            rw [i32_mask4 _ (by omega) (by omega)]; rfl
          have Hlow := Lib.hid hlow
          have Fc := Lib.hid fc
          clear fc hlow
          go_enter Tryd.func10, Tryd.ntmps10
          go_wp2_with (go_at_call 19; refine Fc.out.mono ?_; rintro e w1 ⟨rfl, rfl⟩)
          go_loop [8, 9] (fun v i => ∃ j r : Nat, 1 ≤ j ∧ j ≤ 3 ∧ r < 256 * 64 ^ (j - 1) ∧ i = .int .i64 j ∧ v = .int .i32 r ∧ Utf.val ((s.data.toList.drop k).take 3) = (Utf.joinOn (((s.data.toList.drop k).take 3).drop j) r : Nat)) (fun _ i => 3 - (intOf i).toNat)
          case atStart => exact ⟨1, Utf.low 3 s[k].toNat, by omega, by omega, by simpa using hlow256 3, rfl, congrArg (Value.int .i32) Hlow.out, by rw [← Hst.out]; exact Hval.out⟩
          case round =>
            obtain ⟨j, r, hj1, hj, hr, rfl, rfl, hval⟩ := hrel
            have Hv2 := Lib.hid hval
            clear hval
            by_cases hjm : j < 3
            · have hjm' : (j : Int) < 3 := by omega
              have hks : k + j < s.size := by omega
              have hks' : (k : Int) + (j : Int) < (s.size : Int) := by omega
              have byj := Lib.hid (show ((s.data.toList.drop k).take 3)[j]? = some s[k + j] by rw [List.getElem?_take_of_lt hjm, List.getElem?_drop]; exact Utf.byte_at s (k + j) hks)
              have jr := Utf.join_room hj1 hjm (by omega) hr
              have jr1 := jr.1
              have Jr := Lib.hid jr.2
              clear jr hr
              go_wp2
              go_round
              case rel => exact ⟨j + 1, r * 64 + s[k + j].toNat % 64, by omega, by omega, Jr.out _ (Nat.mod_lt _ (by decide)), by go_num, by rw [ref_or_step _ _ jr1 (UInt8.toNat_lt _)], by rw [Hv2.out, Utf.joinOn_drop byj.out]⟩
              case measure => simp [intOf]; omega
            · have Hv3 := Lib.hid (show Utf.val ((s.data.toList.drop k).take 3) = (r : Int) by rw [Hv2.out, List.drop_of_length_le (by simp; omega)]; rfl)
              have hjm2 : ¬ (j : Int) < 3 := by omega
              go_wp2
              go_ret2
              exact ⟨by rw [Hn.out]; simp only []; rw [Hv3.out]; rfl, rfl⟩
        · have hlow : bits .and .i32 (s[k].toNat : Int) 7 = ((Utf.low 4 s[k].toNat : Nat) : Int) := by
            rw [i32_mask3 _ (by omega) (by omega)]; rfl
          have Hlow := Lib.hid hlow
          have Fc := Lib.hid fc
          clear fc hlow
          go_enter Tryd.func10, Tryd.ntmps10
          go_wp2_with (go_at_call 19; refine Fc.out.mono ?_; rintro e w1 ⟨rfl, rfl⟩)
          go_loop [8, 9] (fun v i => ∃ j r : Nat, 1 ≤ j ∧ j ≤ 4 ∧ r < 256 * 64 ^ (j - 1) ∧ i = .int .i64 j ∧ v = .int .i32 r ∧ Utf.val ((s.data.toList.drop k).take 4) = (Utf.joinOn (((s.data.toList.drop k).take 4).drop j) r : Nat)) (fun _ i => 4 - (intOf i).toNat)
          case atStart => exact ⟨1, Utf.low 4 s[k].toNat, by omega, by omega, by simpa using hlow256 4, rfl, congrArg (Value.int .i32) Hlow.out, by rw [← Hst.out]; exact Hval.out⟩
          case round =>
            obtain ⟨j, r, hj1, hj, hr, rfl, rfl, hval⟩ := hrel
            have Hv2 := Lib.hid hval
            clear hval
            by_cases hjm : j < 4
            · have hjm' : (j : Int) < 4 := by omega
              have hks : k + j < s.size := by omega
              have hks' : (k : Int) + (j : Int) < (s.size : Int) := by omega
              have byj := Lib.hid (show ((s.data.toList.drop k).take 4)[j]? = some s[k + j] by rw [List.getElem?_take_of_lt hjm, List.getElem?_drop]; exact Utf.byte_at s (k + j) hks)
              have jr := Utf.join_room hj1 hjm (by omega) hr
              have jr1 := jr.1
              have Jr := Lib.hid jr.2
              clear jr hr
              go_wp2
              go_round
              case rel => exact ⟨j + 1, r * 64 + s[k + j].toNat % 64, by omega, by omega, Jr.out _ (Nat.mod_lt _ (by decide)), by go_num, by rw [ref_or_step _ _ jr1 (UInt8.toNat_lt _)], by rw [Hv2.out, Utf.joinOn_drop byj.out]⟩
              case measure => simp [intOf]; omega
            · have Hv3 := Lib.hid (show Utf.val ((s.data.toList.drop k).take 4) = (r : Int) by rw [Hv2.out, List.drop_of_length_le (by simp; omega)]; rfl)
              have hjm2 : ¬ (j : Int) < 4 := by omega
              go_wp2
              go_ret2
              exact ⟨by rw [Hn.out]; simp only []; rw [Hv3.out]; rfl, rfl⟩
    · have d1 : decide ((s.size : Int) ≤ (k : Int)) = true := by simp; omega
      have hn : Utf.next s.data.toList k = (0, 0, false) := by unfold Utf.next; rw [if_neg (by omega)]
      have Hn := Lib.hid hn
      clear hn hsl h0
      go_enter Tryd.func10, Tryd.ntmps10
      go_wp2
      go_ret2
      exact ⟨by rw [Hn.out]; rfl, rfl⟩

end Go.Proofs.YtobaclonacpoeaaDoor
