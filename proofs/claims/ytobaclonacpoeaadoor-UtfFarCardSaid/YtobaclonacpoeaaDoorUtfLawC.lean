/- The walk of the law UtfWalks. -/
import Derived.Test.YtobaclonacpoeaaDoorUtfLawB
import Derived.Test.YtobaclonacpoeaaDoorUtfPlainE
namespace Go.Proofs.YtobaclonacpoeaaDoor
open Go.RowKit

theorem next_yes {l : List UInt8} {k : Nat} (hk : k < l.length) (hw : (Utf.front (l.drop k)).2 = true) : Utf.next l k = (Utf.val ((l.drop k).take (Utf.front (l.drop k)).1), (Utf.front (l.drop k)).1, true) := by
  unfold Utf.next
  rw [Int.toNat_natCast, if_pos ⟨by omega, by omega, hw⟩]
theorem next_no {l : List UInt8} {k : Nat} (hw : (Utf.front (l.drop k)).2 = false) : Utf.next l k = (0, 0, false) := by
  unfold Utf.next
  rw [Int.toNat_natCast, if_neg (by simp [hw])]
theorem piece (s : ByteArray) (k m : Nat) : s.extract k (k + m) = ⟨((s.data.toList.drop k).take m).toArray⟩ := by
  have : (s.extract k (k + m)).data.toList = (s.data.toList.drop k).take m := by
    rw [ByteArray.data_extract, Array.toList_extract, List.extract_eq_take_drop]; congr 1; omega
  rw [← this]

set_option maxHeartbeats 1000000 in
theorem walks_walk (s : ByteArray) (w : World) (hT : Tabs w) :
    Calls Tryd.prog 7 #[.string s] w fun e w' => e = .returned (.bool true) ∧ Below w.heap.size w w' := by
  by_cases hs : s.size ≤ 200
  · have ds : decide ((200 : Int) < (s.size : Int)) = false := by simp; omega
    have ct := fun w' ht => count_tabs s w' (by unfold maxLen; omega) ht
    have bd := fun w' ht => bad_tabs s w' (by unfold maxLen; omega) ht
    have nx := fun i w' ht => next_tabs s i w' (by unfold maxLen; omega) ht
    have Ct := Lib.hid ct
    have Bd := Lib.hid bd
    have Nx := Lib.hid nx
    clear ct bd nx
    go_enter Tryd.func7, Tryd.ntmps7
    go_wp2_with fail
    refine (known_calls _ hT).mono ?_; rintro e w1 ⟨rfl, b1, t1⟩
    go_wp2_with fail
    go_loopw [3, 4] (fun v c wr => ∃ k n : Nat, Utf.Far s.data.toList k n ∧ n ≤ k ∧ v = .int .i64 k ∧ c = .int .i64 n ∧ Below w.heap.size w wr ∧ Tabs wr) (fun v _ _ => s.size - (intOf v).toNat)
    case atStart => exact ⟨0, 0, Utf.far_zero _, by omega, rfl, rfl, b1, t1⟩
    case round =>
      obtain ⟨k, n, hf, hnk, rfl, rfl, hb, hTr⟩ := hrel
      have hsl := Utf.size_len s
      have Hf := Lib.hid hf
      have hin := hf.inL
      rw [hsl] at hin
      have hz : w.heap.size ≤ wr.heap.size := hb.size
      have hnle : decide ((n : Int) ≤ (s.size : Int)) = true := by simp; omega
      clear hf
      by_cases h1 : k < s.size
      · have h1' : k < s.data.toList.length := by omega
        have hk1 : decide ((k : Int) < (s.size : Int)) = true := by simp; omega
        have hle := Utf.front_le (s.data.toList.drop k)
        rw [List.length_drop, hsl] at hle
        cases hw : (Utf.front (s.data.toList.drop k)).2
        · have nn := Utf.far_no Hf.out h1' hw
          have hm3 := Utf.front_half hw
          have nk := Nx.out k wr hTr
          rw [next_no hw] at nk
          have ct := Ct.out
          have bd := Bd.out
          rw [nn.2] at ct
          rw [nn.1] at bd
          generalize (Utf.front (s.data.toList.drop k)).1 = m at *
          have dm3 : decide ((m : Int) ≤ 3) = true := by simp; omega
          have Nk := Lib.hid nk
          have Ct2 := Lib.hid ct
          have Bd2 := Lib.hid bd
          clear nk ct bd nn hw hsl
          go_wp2_with fail
          refine Nk.out.mono ?_; rintro e w2 ⟨rfl, b2, t2⟩
          go_wp2_with fail
          refine (Ct2.out _ t2).mono ?_; rintro e w3 ⟨rfl, b3, t3⟩
          go_wp2_with fail
          refine (Bd2.out _ t3).mono ?_; rintro e w4 ⟨rfl, b4, t4⟩
          go_wp2_with fail
          refine (Bd2.out _ t4).mono ?_; rintro e w5 ⟨rfl, b5, t5⟩
          go_wp2
          go_ret
          exact ⟨rfl, hb.trans ((trans9 (trans9 (trans9 b2 b3) b4) b5).mono hz)⟩
        · have hwp := Utf.front_whole hw
          have wb := Utf.whole_bytes hw
          have yes := Utf.far_yes Hf.out h1' hw
          have nk := Nx.out k wr hTr
          rw [next_yes h1' hw] at nk
          have en := fun w' ht => encode_tabs (Utf.val ((s.data.toList.drop k).take (Utf.front (s.data.toList.drop k)).1)) w' ht
          rw [wb.1, wb.2, ← piece] at en
          generalize Utf.val ((s.data.toList.drop k).take (Utf.front (s.data.toList.drop k)).1) = v at *
          generalize (Utf.front (s.data.toList.drop k)).1 = m at *
          have d1 : decide ((m : Int) < 1) = false := by simp; omega
          have d2 : decide ((4 : Int) < (m : Int)) = false := by simp; omega
          have d3 : decide ((s.size : Int) < (k : Int) + (m : Int)) = false := by simp; omega
          have Nk := Lib.hid nk
          have En := Lib.hid en
          have Yes := Lib.hid yes
          clear nk en yes wb hw hsl
          go_wp2_with fail
          refine Nk.out.mono ?_; rintro e w2 ⟨rfl, b2, t2⟩
          go_wp2_with fail
          refine (En.out _ t2).mono ?_; rintro e w3 ⟨rfl, b3, t3⟩
          go_wp2
          go_roundw
          case rel => exact ⟨k + m, n + 1, Yes.out, by omega, by go_num, by go_num, hb.trans ((trans9 b2 b3).mono hz), t3⟩
          case measure => simp [intOf]; omega
      · have nn := Utf.far_end Hf.out (by omega)
        have ct := Ct.out
        have bd := Bd.out
        rw [nn.2] at ct
        rw [nn.1] at bd
        have hk0 : decide ((k : Int) < (s.size : Int)) = false := by simp; omega
        have Ct2 := Lib.hid ct
        have Bd2 := Lib.hid bd
        clear ct bd nn hsl
        go_wp2_with fail
        refine (Ct2.out _ hTr).mono ?_; rintro e w3 ⟨rfl, b3, t3⟩
        go_wp2_with fail
        refine (Bd2.out _ t3).mono ?_; rintro e w4 ⟨rfl, b4, t4⟩
        go_wp2
        go_ret
        exact ⟨rfl, hb.trans ((trans9 b3 b4).mono hz)⟩
  · have ds : decide ((200 : Int) < (s.size : Int)) = true := by simp; omega
    go_enter Tryd.func7, Tryd.ntmps7
    go_wp2_with fail
    refine (known_calls _ hT).mono ?_; rintro e w1 ⟨rfl, b1, t1⟩
    go_wp2
    go_ret
    exact ⟨rfl, b1⟩

end Go.Proofs.YtobaclonacpoeaaDoor
