/- The walks of package utf's Next, Bad, Count. -/
import Derived.Test.YthniemoganoapaaDoorUtfC
import Derived.Test.YthniemoganoapaaDoorPlA
set_option linter.unusedVariables false
set_option linter.unusedSimpArgs false
namespace Go.Proofs.YthniemoganoapaaDoor
open Go.RowKit

set_option maxHeartbeats 1000000 in
theorem next_calls (s : ByteArray) (i : Int) (w : World) (hs : s.size ≤ maxLen) (hT : ShapesIn w) (hM : MarksIn w) :
    Calls Tryd.prog 69 #[.string s, .int .i64 i] w fun e w' =>
      e = .returned (.tuple #[.int .i32 (Utf.next s.data.toList i).1, .int .i64 (Utf.next s.data.toList i).2.1, .bool (Utf.next s.data.toList i).2.2]) ∧ Below w.heap.size w w' := by
  have hs' := hs
  unfold maxLen at hs'
  have hsl := Utf.size_len s
  by_cases h0 : i < 0
  · have d0 : decide (i < 0) = true := by simpa using h0
    have hn : Utf.next s.data.toList i = (0, 0, false) := by unfold Utf.next; rw [if_neg (by omega)]
    have Hn := Lib.hid hn
    clear hn hsl
    go_enter Tryd.func69, Tryd.ntmps69
    go_wp2
    go_ret3
    exact ⟨by rw [Hn.out]; rfl, Below.refl _ _⟩
  · have d0 : decide (i < 0) = false := by simpa using h0
    obtain ⟨k, rfl⟩ := Int.eq_ofNat_of_zero_le (by omega : 0 ≤ i)
    by_cases h1 : k < s.size
    · have d1 : decide ((s.size : Int) ≤ (k : Int)) = false := by simp; omega
      have hle := Utf.front_le (s.data.toList.drop k)
      rw [List.length_drop, hsl] at hle
      cases hw : (Utf.front (s.data.toList.drop k)).2
      · have hn : Utf.next s.data.toList k = (0, 0, false) := by unfold Utf.next; rw [if_neg (by simp [hw])]
        have Hn := Lib.hid hn
        clear hn hsl h0
        go_enter Tryd.func69, Tryd.ntmps69
        go_wp2_with (go_at_call 71; refine (fit_calls _ _ _ h1 hs hT).mono ?_; rintro e w1 ⟨rfl, hb1⟩)
        go_ret3
        exact ⟨by rw [Hn.out]; rfl, hb1⟩
      · have h1' := Utf.front_whole hw
        have hn : Utf.next s.data.toList k = (Utf.val ((s.data.toList.drop k).take (Utf.front (s.data.toList.drop k)).1), (Utf.front (s.data.toList.drop k)).1, true) := by
          unfold Utf.next; rw [if_pos ⟨by omega, by omega, by simpa using hw⟩]; simp
        have Hn := Lib.hid hn
        clear hn h0
        obtain ⟨n, hnn⟩ : ∃ n, (Utf.front (s.data.toList.drop k)).1 = n := ⟨_, rfl⟩
        rw [hnn] at hle h1'
        have hj : ∀ w' : World, Below w.heap.size w w' → MarksIn w' := fun w' hb => hM.below hb (by have := hT.room; obtain ⟨t, fr, h⟩ := hM; exact (Array.getElem?_eq_some_iff.1 h).1)
        have Hj := Lib.hid hj
        have Hnn := Lib.hid hnn
        have hx : ((s.extract k (k + n)).data.toList) = (s.data.toList.drop k).take n := by
          rw [ByteArray.data_extract, Array.toList_extract, List.extract_eq_take_drop]; congr 1; omega
        have hxs : (s.extract k (k + n)).size = n := by
          have := congrArg List.length hx
          rw [Utf.size_len] at this
          rw [List.length_take, List.length_drop] at this
          omega
        clear hsl
        have Hxs := Lib.hid hxs
        clear hj hnn hx hxs
        have fc := fit_calls s k w h1 hs hT
        rw [Hnn.out, hw] at fc
        have Fc := Lib.hid fc
        clear fc hw
        go_enter Tryd.func69, Tryd.ntmps69
        go_wp2_with (go_at_call 71; refine Fc.out.mono ?_; rintro e w1 ⟨rfl, hb1⟩)
        refine (ujoin_calls (s.extract k (k + n)) _ (Hj.out _ hb1) (by rw [Hxs.out]; omega) (by rw [Hxs.out]; omega)).mono ?_
        rintro e w2 ⟨rfl, hb2⟩
        go_wp2
        go_ret3
        exact ⟨by rw [Hn.out, Hnn.out]; rfl, hb1.trans (hb2.mono hb1.size)⟩
    · have d1 : decide ((s.size : Int) ≤ (k : Int)) = true := by simp; omega
      have hn : Utf.next s.data.toList k = (0, 0, false) := by unfold Utf.next; rw [if_neg (by omega)]
      have Hn := Lib.hid hn
      clear hn hsl h0
      go_enter Tryd.func69, Tryd.ntmps69
      go_wp2
      go_ret3
      exact ⟨by rw [Hn.out]; rfl, Below.refl _ _⟩

set_option maxHeartbeats 1000000 in
theorem bad_calls (s : ByteArray) (w : World) (hs : s.size ≤ maxLen) (hT : ShapesIn w) :
    Calls Tryd.prog 70 #[.string s] w fun e w' => e = .returned (.int .i64 (Utf.bad s.data.toList)) ∧ Below w.heap.size w w' := by
  have hs' := hs
  unfold maxLen at hs'
  have hroom := hT.room
  go_enter Tryd.func70, Tryd.ntmps70
  go_wp2_with fail
  go_loopw [3] (fun v wr => ∃ k n : Nat, Utf.Far s.data.toList k n ∧ v = .int .i64 k ∧ Below w.heap.size w wr) (fun v _ => s.size - (intOf v).toNat)
  case atStart => exact ⟨0, 0, Utf.far_zero _, rfl, Below.refl _ _⟩
  case round =>
    obtain ⟨k, n, hf, rfl, hb⟩ := hrel
    have hsl := Utf.size_len s
    have Hf := Lib.hid hf
    have hin := hf.inL
    rw [hsl] at hin
    have hTr := hT.below hb hroom
    have hz : w.heap.size ≤ wr.heap.size := hb.size
    clear hf
    by_cases h1 : k < s.size
    · have h1' : k < s.data.toList.length := by omega
      have hle := (Utf.front_le (s.data.toList.drop k)).1
      rw [List.length_drop, hsl] at hle
      have fc := fit_calls s k wr h1 hs hTr
      cases hw : (Utf.front (s.data.toList.drop k)).2
      · rw [hw] at fc
        have Hb := Lib.hid (Utf.far_no Hf.out h1' hw)
        obtain ⟨m, hm⟩ : ∃ m, (Utf.front (s.data.toList.drop k)).1 = m := ⟨_, rfl⟩
        rw [hm] at fc hle
        have Hm := Lib.hid hm
        have Fc := Lib.hid fc
        clear fc hw hsl hm hTr
        go_wp2_with (go_at_call 71; refine Fc.out.mono ?_; rintro e w1 ⟨rfl, hb1⟩)
        go_ret
        exact ⟨by rw [Hb.out.1, Hm.out]; rfl, hb.trans (hb1.mono hz)⟩
      · rw [hw] at fc
        have Hy := Lib.hid (Utf.far_yes Hf.out h1' hw)
        have hwp := Utf.front_whole hw
        obtain ⟨m, hm⟩ : ∃ m, (Utf.front (s.data.toList.drop k)).1 = m := ⟨_, rfl⟩
        rw [hm] at fc hle hwp
        have Hm := Lib.hid hm
        have Fc := Lib.hid fc
        clear fc hw hsl hm hTr
        go_wp2_with (go_at_call 71; refine Fc.out.mono ?_; rintro e w1 ⟨rfl, hb1⟩)
        go_roundw
        case rel => exact ⟨k + m, n + 1, by have := Hy.out; rw [Hm.out] at this; exact this, by go_num, hb.trans (hb1.mono hz)⟩
        case measure => simp [intOf]; omega
    · have Hb := Lib.hid (Utf.far_end Hf.out (by omega))
      clear hsl hTr
      go_wp2
      go_ret
      exact ⟨by rw [Hb.out.1]; rfl, hb⟩

end Go.Proofs.YthniemoganoapaaDoor
