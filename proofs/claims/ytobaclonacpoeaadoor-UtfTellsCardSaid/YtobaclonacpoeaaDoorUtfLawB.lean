/- The walk of the law UtfJoins. -/
import Derived.Test.YtobaclonacpoeaaDoorUtfLawA
namespace Go.Proofs.YtobaclonacpoeaaDoor
open Go.RowKit

theorem count_range (l : List UInt8) : -1 ≤ Utf.count l ∧ Utf.count l ≤ l.length := by
  have := Utf.steps_le _ l (Nat.le_refl _)
  unfold Utf.count
  split <;> omega
theorem bad_range (l : List UInt8) : -1 ≤ Utf.bad l ∧ Utf.bad l ≤ l.length := by
  have := Utf.steps_le _ l (Nat.le_refl _)
  unfold Utf.bad
  split <;> omega

set_option maxHeartbeats 1000000 in
theorem joins_walk (a b : ByteArray) (w : World) (hT : Tabs w) :
    Calls Tryd.prog 6 #[.string a, .string b] w fun e w' => e = .returned (.bool true) ∧ Below w.heap.size w w' := by
  by_cases ha : a.size ≤ 100
  · have da : decide ((100 : Int) < (a.size : Int)) = false := by simp; omega
    by_cases hb : b.size ≤ 100
    · have db : decide ((100 : Int) < (b.size : Int)) = false := by simp; omega
      have ca := fun w' ht => count_tabs a w' (by unfold maxLen; omega) ht
      have cb := fun w' ht => count_tabs b w' (by unfold maxLen; omega) ht
      have cab := fun w' ht => count_tabs (a ++ b) w' (by rw [app_size]; unfold maxLen; omega) ht
      have ba := fun w' ht => bad_tabs a w' (by unfold maxLen; omega) ht
      have bb := fun w' ht => bad_tabs b w' (by unfold maxLen; omega) ht
      have bab := fun w' ht => bad_tabs (a ++ b) w' (by rw [app_size]; unfold maxLen; omega) ht
      have j1 := Utf.joins_good a.data.toList b.data.toList
      have j2 := Utf.joins_bad a.data.toList b.data.toList
      have j3 := Utf.joins_half a.data.toList b.data.toList
      have ra := count_range a.data.toList
      have rb := count_range b.data.toList
      have sa := bad_range a.data.toList
      have sb := bad_range b.data.toList
      rw [app_list] at cab bab
      rw [Utf.size_len] at j2 j3 ra rb sa sb
      generalize Utf.count a.data.toList = M at *
      generalize Utf.count b.data.toList = N at *
      generalize Utf.count (a.data.toList ++ b.data.toList) = MN at *
      generalize Utf.bad a.data.toList = BA at *
      generalize Utf.bad b.data.toList = BB at *
      generalize Utf.bad (a.data.toList ++ b.data.toList) = BAB at *
      have Ca := Lib.hid ca
      have Cb := Lib.hid cb
      have Cab := Lib.hid cab
      have Ba := Lib.hid ba
      have Bb := Lib.hid bb
      have Bab := Lib.hid bab
      clear ca cb cab ba bb bab
      by_cases hM : 0 ≤ M
      · by_cases hN : 0 ≤ N
        · obtain ⟨rfl, rfl⟩ := j1 hM hN
          clear j2 j3
          go_enter Tryd.func6, Tryd.ntmps6
          go_wp2_with fail
          refine (known_calls _ hT).mono ?_; rintro e w1 ⟨rfl, b1, t1⟩
          go_wp2_with fail
          refine (Ca.out _ t1).mono ?_; rintro e w2 ⟨rfl, b2, t2⟩
          go_wp2_with fail
          refine (Cb.out _ t2).mono ?_; rintro e w3 ⟨rfl, b3, t3⟩
          go_wp2_with fail
          refine (Cab.out _ t3).mono ?_; rintro e w4 ⟨rfl, b4, t4⟩
          go_wp2_with fail
          refine (Bab.out _ t4).mono ?_; rintro e w5 ⟨rfl, b5, t5⟩
          go_wp2
          go_ret
          exact ⟨rfl, trans9 (trans9 (trans9 (trans9 b1 b2) b3) b4) b5⟩
        · have hN' : N < 0 := by omega
          have e := j3 hM hN'
          obtain rfl := e
          clear j1 j2 hN
          have dN : decide (0 ≤ N) = false := by simpa using hN'
          go_enter Tryd.func6, Tryd.ntmps6
          go_wp2_with fail
          refine (known_calls _ hT).mono ?_; rintro e w1 ⟨rfl, b1, t1⟩
          go_wp2_with fail
          refine (Ca.out _ t1).mono ?_; rintro e w2 ⟨rfl, b2, t2⟩
          go_wp2_with fail
          refine (Cb.out _ t2).mono ?_; rintro e w3 ⟨rfl, b3, t3⟩
          go_wp2_with fail
          refine (Bab.out _ t3).mono ?_; rintro e w4 ⟨rfl, b4, t4⟩
          go_wp2_with fail
          refine (Bb.out _ t4).mono ?_; rintro e w5 ⟨rfl, b5, t5⟩
          go_wp2
          go_ret
          exact ⟨rfl, trans9 (trans9 (trans9 (trans9 b1 b2) b3) b4) b5⟩
      · have hM' : M < 0 := by omega
        have dM : decide (0 ≤ M) = false := by simpa using hM'
        obtain ⟨h0, h⟩ := j2 hM'
        clear j1 j3 hM
        by_cases hx : BA = a.size
        · have dx : (BA == (a.size : Int)) = true := by simpa using hx
          clear h j2 hx
          go_enter Tryd.func6, Tryd.ntmps6
          go_wp2_with fail
          refine (known_calls _ hT).mono ?_; rintro e w1 ⟨rfl, b1, t1⟩
          go_wp2_with fail
          refine (Ca.out _ t1).mono ?_; rintro e w2 ⟨rfl, b2, t2⟩
          go_wp2_with fail
          refine (Cb.out _ t2).mono ?_; rintro e w3 ⟨rfl, b3, t3⟩
          go_wp2_with fail
          refine (Ba.out _ t3).mono ?_; rintro e w4 ⟨rfl, b4, t4⟩
          go_wp2_with fail
          refine (Ba.out _ t4).mono ?_; rintro e w5 ⟨rfl, b5, t5⟩
          go_wp2
          go_ret
          exact ⟨rfl, trans9 (trans9 (trans9 (trans9 b1 b2) b3) b4) b5⟩
        · have dx : (BA == (a.size : Int)) = false := by simpa using hx
          obtain rfl : BAB = BA := by rcases h with h | h; exact absurd h hx; exact h
          clear h j2 hx
          go_enter Tryd.func6, Tryd.ntmps6
          go_wp2_with fail
          refine (known_calls _ hT).mono ?_; rintro e w1 ⟨rfl, b1, t1⟩
          go_wp2_with fail
          refine (Ca.out _ t1).mono ?_; rintro e w2 ⟨rfl, b2, t2⟩
          go_wp2_with fail
          refine (Cb.out _ t2).mono ?_; rintro e w3 ⟨rfl, b3, t3⟩
          go_wp2_with fail
          refine (Ba.out _ t3).mono ?_; rintro e w4 ⟨rfl, b4, t4⟩
          go_wp2_with fail
          refine (Ba.out _ t4).mono ?_; rintro e w5 ⟨rfl, b5, t5⟩
          go_wp2_with fail
          refine (Bab.out _ t5).mono ?_; rintro e w6 ⟨rfl, b6, t6⟩
          go_wp2_with fail
          refine (Ba.out _ t6).mono ?_; rintro e w7 ⟨rfl, b7, t7⟩
          go_wp2
          go_ret
          exact ⟨rfl, trans9 (trans9 (trans9 (trans9 (trans9 (trans9 b1 b2) b3) b4) b5) b6) b7⟩
    · have db : decide ((100 : Int) < (b.size : Int)) = true := by simp; omega
      go_enter Tryd.func6, Tryd.ntmps6
      go_wp2_with fail
      refine (known_calls _ hT).mono ?_; rintro e w1 ⟨rfl, b1, t1⟩
      go_wp2
      go_ret
      exact ⟨rfl, b1⟩
  · have da : decide ((100 : Int) < (a.size : Int)) = true := by simp; omega
    go_enter Tryd.func6, Tryd.ntmps6
    go_wp2_with fail
    refine (known_calls _ hT).mono ?_; rintro e w1 ⟨rfl, b1, t1⟩
    go_wp2
    go_ret
    exact ⟨rfl, b1⟩

end Go.Proofs.YtobaclonacpoeaaDoor
