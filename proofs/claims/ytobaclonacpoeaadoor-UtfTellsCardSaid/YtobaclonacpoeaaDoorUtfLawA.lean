/- The walks of the laws UtfBack and UtfJoins. -/
import Derived.Test.YtobaclonacpoeaaDoorUtfK
import Derived.Test.YtobaclonacpoeaaDoorUtfPlainD
namespace Go.Proofs.YtobaclonacpoeaaDoor
open Go.RowKit

theorem app_size (a b : ByteArray) : (a ++ b).size = a.size + b.size := ByteArray.size_append
theorem app_list (a b : ByteArray) : (a ++ b).data.toList = a.data.toList ++ b.data.toList := by simp

set_option maxHeartbeats 1000000 in
theorem back_walk (r : Int) (ahead behind : ByteArray) (w : World) (hT : Tabs w) :
    Calls Tryd.prog 4 #[.int .i32 r, .string ahead, .string behind] w fun e w' => e = .returned (.bool true) ∧ Below w.heap.size w w' := by
  by_cases ha : ahead.size ≤ 50
  · have da : decide ((50 : Int) < (ahead.size : Int)) = false := by simp; omega
    by_cases hb : behind.size ≤ 50
    · have db : decide ((50 : Int) < (behind.size : Int)) = false := by simp; omega
      cases hs : Utf.isScalar r
      · have en := fun w' ht => encode_tabs r w' ht
        have eb : Utf.bytes r = [] := by simp [Utf.bytes, hs]
        rw [hs, eb] at en
        have En := Lib.hid en
        clear en eb
        have hn : r < 0 ∨ (0 ≤ r ∧ 1114111 < r) ∨ (0 ≤ r ∧ r ≤ 1114111 ∧ 55296 ≤ r ∧ r ≤ 57343) := by
          have := mt (Utf.isScalar_iff r).2 (by simp [hs])
          omega
        clear hs
        have hn' : r < 0 ∨ (0 ≤ r ∧ 1114111 < r) ∨ (0 ≤ r ∧ r ≤ 1114111 ∧ decide (r < 55296) = false ∧ decide (57343 < r) = false) := by
          rcases hn with h | h | h
          · exact Or.inl h
          · exact Or.inr (Or.inl h)
          · exact Or.inr (Or.inr ⟨h.1, h.2.1, by simp; omega, by simp; omega⟩)
        clear hn
        rcases hn' with h | ⟨h, h1⟩ | ⟨h, h1, h2, h3⟩
        all_goals
          go_enter Tryd.func4, Tryd.ntmps4
          go_wp2_with fail
          refine (known_calls _ hT).mono ?_; rintro e w1 ⟨rfl, b1, t1⟩
          go_wp2_with fail
          refine (En.out _ t1).mono ?_; rintro e w2 ⟨rfl, b2, t2⟩
          go_wp2
          go_ret
          exact ⟨rfl, trans9 b1 b2⟩
      · have en := fun w' ht => encode_tabs r w' ht
        have bk := Utf.back r hs ahead.data.toList behind.data.toList
        have bp := Utf.bytes_pos r hs
        have hr := (Utf.isScalar_iff r).1 hs
        rw [hs] at en
        obtain ⟨b, eb⟩ : ∃ b : ByteArray, b = ⟨(Utf.bytes r).toArray⟩ := ⟨_, rfl⟩
        have el : Utf.bytes r = b.data.toList := by rw [eb]
        rw [← eb] at en
        rw [el] at bk bp
        rw [Utf.size_len] at bp
        have nx := fun w' ht => next_tabs (ahead ++ b ++ behind) ahead.size w' (by rw [app_size, app_size]; unfold maxLen; omega) ht
        have bd := fun w' ht => bad_tabs b w' (by unfold maxLen; omega) ht
        have ct := fun w' ht => count_tabs b w' (by unfold maxLen; omega) ht
        rw [app_list, app_list] at nx
        rw [Utf.size_len] at bk
        rw [bk.1] at nx
        rw [bk.2.1] at bd
        rw [bk.2.2] at ct
        have hsz : (ahead.size : Int) ≤ 50 := by omega
        have En := Lib.hid en
        have Nx := Lib.hid nx
        have Bd := Lib.hid bd
        have Ct := Lib.hid ct
        rw [Utf.size_len] at Nx
        clear en nx bd ct bk el eb hs
        have hr' : 0 ≤ r ∧ r ≤ 1114111 ∧ ((decide (r < 55296) = true ∧ 0 ≤ r) ∨ (decide (r < 55296) = false ∧ decide (57343 < r) = true)) := by
          rcases hr with h | h
          · exact ⟨h.1, by omega, Or.inl ⟨by simp; omega, h.1⟩⟩
          · exact ⟨by omega, by omega, Or.inr ⟨by simp; omega, by simp; omega⟩⟩
        clear hr
        obtain ⟨h0, h1, h⟩ := hr'
        rcases h with ⟨h2, h3⟩ | ⟨h2, h3⟩
        all_goals
          go_enter Tryd.func4, Tryd.ntmps4
          go_wp2_with fail
          refine (known_calls _ hT).mono ?_; rintro e w1 ⟨rfl, b1, t1⟩
          go_wp2_with fail
          refine (En.out _ t1).mono ?_; rintro e w2 ⟨rfl, b2, t2⟩
          go_wp2_with fail
          refine (Nx.out _ t2).mono ?_; rintro e w3 ⟨rfl, b3, t3⟩
          go_wp2_with fail
          refine (Bd.out _ t3).mono ?_; rintro e w4 ⟨rfl, b4, t4⟩
          go_wp2_with fail
          refine (Ct.out _ t4).mono ?_; rintro e w5 ⟨rfl, b5, t5⟩
          go_wp2
          go_ret
          exact ⟨rfl, trans9 (trans9 (trans9 (trans9 b1 b2) b3) b4) b5⟩
    · have db : decide ((50 : Int) < (behind.size : Int)) = true := by simp; omega
      go_enter Tryd.func4, Tryd.ntmps4
      go_wp2_with fail
      refine (known_calls _ hT).mono ?_; rintro e w1 ⟨rfl, b1, t1⟩
      go_wp2
      go_ret
      exact ⟨rfl, b1⟩
  · have da : decide ((50 : Int) < (ahead.size : Int)) = true := by simp; omega
    go_enter Tryd.func4, Tryd.ntmps4
    go_wp2_with fail
    refine (known_calls _ hT).mono ?_; rintro e w1 ⟨rfl, b1, t1⟩
    go_wp2
    go_ret
    exact ⟨rfl, b1⟩

end Go.Proofs.YtobaclonacpoeaaDoor
