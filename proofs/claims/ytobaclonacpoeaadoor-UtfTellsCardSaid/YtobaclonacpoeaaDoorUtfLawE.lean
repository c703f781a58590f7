/- The walk of the law UtfTells. -/
import Derived.Test.YtobaclonacpoeaaDoorUtfLawB
import Derived.Test.YtobaclonacpoeaaDoorRefUtfC
import Derived.Test.YtobaclonacpoeaaDoorRefUtfD
namespace Go.Proofs.YtobaclonacpoeaaDoor
open Go.RowKit

theorem next_cases (l : List UInt8) (i : Int) : (∃ (v : Int) (n : Nat), Utf.next l i = (v, n, true) ∧ 1 ≤ n) ∨ Utf.next l i = (0, 0, false) := by
  unfold Utf.next
  split
  · rename_i h
    exact Or.inl ⟨_, _, rfl, Utf.front_whole h.2.2⟩
  · exact Or.inr rfl

set_option maxHeartbeats 2000000 in
theorem tells_walk (s : ByteArray) (at' r : Int) (w : World) (hT : Tabs w) :
    Calls Tryd.prog 3 #[.string s, .int .i64 at', .int .i32 r] w fun e w' => e = .returned (.bool true) ∧ Below w.heap.size w w' := by
  by_cases hs : s.size ≤ 300
  · have ds : decide ((300 : Int) < (s.size : Int)) = false := by simp; omega
    have ct := fun w' ht => count_tabs s w' (by unfold maxLen; omega) ht
    have bd := fun w' ht => bad_tabs s w' (by unfold maxLen; omega) ht
    have nx := fun i w' ht => next_tabs s i w' (by unfold maxLen; omega) ht
    have rn := fun i w' => next_ref s i w' (by unfold maxLen; omega)
    have rb := fun w' => bad_ref s w' (by unfold maxLen; omega)
    have rc := fun w' => count_ref s w' (by unfold maxLen; omega)
    have en := fun w' ht => encode_tabs r w' ht
    have re := fun w' => bytes_ref r w'
    have nc := next_cases s.data.toList
    generalize Utf.next s.data.toList = nf at *
    generalize Utf.count s.data.toList = C at *
    generalize Utf.bad s.data.toList = B at *
    have Ct := Lib.hid ct
    have Bd := Lib.hid bd
    have Nx := Lib.hid nx
    have Rn := Lib.hid rn
    have Rb := Lib.hid rb
    have Rc := Lib.hid rc
    have En := Lib.hid en
    have Re := Lib.hid re
    have Nc := Lib.hid nc
    clear ct bd nx rn rb rc en re nc
    go_enter Tryd.func3, Tryd.ntmps3
    go_wp2_with fail
    refine (known_calls _ hT).mono ?_; rintro e w1 ⟨rfl, b1, t1⟩
    go_wp2_with fail
    obtain ⟨W1, hW1⟩ : ∃ W1 : World, W1 = w1.alloc (.cells #[.int .i64 at', .int .i64 0, .int .i64 ((s.size : Int) / 2), .int .i64 ((s.size : Int) - 1), .int .i64 s.size] 3) := ⟨_, rfl⟩
    rw [← hW1]
    have hz1 : W1.heap.size = w1.heap.size + 1 := by rw [hW1]; simp
    have bW : Below w1.heap.size w1 W1 := by rw [hW1]; exact (Below.refl _ _).alloc (Nat.le_refl _) _
    have tW : Tabs W1 := t1.below bW
    have cW : ∀ j, j < 5 → ∃ x : Int, W1.cell? ⟨w1.heap.size, j, none⟩ = some (.int .i64 x) := fun j hj => by
      rw [hW1]
      rcases (by omega : j = 0 ∨ j = 1 ∨ j = 2 ∨ j = 3 ∨ j = 4) with rfl | rfl | rfl | rfl | rfl
      · exact ⟨at', by simp⟩
      · exact ⟨0, by simp⟩
      · exact ⟨(s.size : Int) / 2, by simp⟩
      · exact ⟨(s.size : Int) - 1, by simp⟩
      · exact ⟨s.size, by simp⟩
    have CW := Lib.hid cW
    have Hz1 := Lib.hid hz1
    clear cW hz1 hW1
    go_loopw [32] (fun i wr => ∃ j : Nat, j ≤ 5 ∧ i = .int .i64 j ∧ Below W1.heap.size W1 wr ∧ Tabs wr) (fun i _ => 5 - (intOf i).toNat)
    case atStart => exact ⟨0, by omega, rfl, Below.refl _ _, tW⟩
    case round =>
      obtain ⟨j, hj, rfl, hb, hTr⟩ := hrel
      have hz : W1.heap.size ≤ wr.heap.size := hb.size
      by_cases hj5 : j < 5
      · obtain ⟨x, hx⟩ := CW.out j hj5
        have cj : wr.cell? ⟨w1.heap.size, j, none⟩ = some (.int .i64 x) := by rw [hb.cell (by have := Hz1.out; simp; omega)]; exact hx
        have nx := fun w' ht => Nx.out x w' ht
        have rn := fun w' => Rn.out x w'
        clear hx
        rcases Nc.out x with ⟨v, m, e, hm⟩ | e
        · rw [e] at nx rn
          have dm : decide ((0 : Int) < (m : Int)) = true := by simp; omega
          have dmn : decide (0 < m) = true := by simp; omega
          have Nx2 := Lib.hid nx
          have Rn2 := Lib.hid rn
          clear nx rn e
          go_wp2_with fail
          refine (Nx2.out _ hTr).mono ?_; rintro e w2 ⟨rfl, b2, t2⟩
          go_wp2_with fail
          refine (Rn2.out _).mono ?_; rintro e w3 ⟨rfl, rfl⟩
          go_wp2
          go_roundw
          case rel => exact ⟨j + 1, by omega, by go_num, hb.trans (b2.mono hz), t2⟩
          case measure => simp [intOf]; omega
        · rw [e] at nx rn
          have Nx2 := Lib.hid nx
          have Rn2 := Lib.hid rn
          clear nx rn e
          go_wp2_with fail
          refine (Nx2.out _ hTr).mono ?_; rintro e w2 ⟨rfl, b2, t2⟩
          go_wp2_with fail
          refine (Rn2.out _).mono ?_; rintro e w3 ⟨rfl, rfl⟩
          go_wp2
          go_roundw
          case rel => exact ⟨j + 1, by omega, by go_num, hb.trans (b2.mono hz), t2⟩
          case measure => simp [intOf]; omega
      · cases hsc : Utf.isScalar r
        · have en := En.out
          have re := Re.out
          have e0 : Utf.bytes r = [] := by simp [Utf.bytes, hsc]
          rw [hsc, e0] at en
          rw [e0] at re
          have En2 := Lib.hid en
          have Re2 := Lib.hid re
          clear en re e0 hsc
          go_wp2_with fail
          refine (En2.out _ hTr).mono ?_; rintro e w2 ⟨rfl, b2, t2⟩
          go_wp2_with fail
          refine (Re2.out _).mono ?_; rintro e w3 ⟨rfl, b3⟩
          have t3 := t2.below b3
          go_wp2_with fail
          refine (Bd.out _ t3).mono ?_; rintro e w4 ⟨rfl, b4, t4⟩
          go_wp2_with fail
          refine (Rb.out _).mono ?_; rintro e w5 ⟨rfl, rfl⟩
          go_wp2_with fail
          refine (Ct.out _ t4).mono ?_; rintro e w6 ⟨rfl, b6, t6⟩
          go_wp2_with fail
          refine (Rc.out _).mono ?_; rintro e w7 ⟨rfl, rfl⟩
          go_wp2
          go_ret
          exact ⟨rfl, trans9 (trans9 (trans9 (trans9 (trans9 (trans9 b1 bW) hb) b2) b3) b4) b6⟩
        · have en := En.out
          have re := Re.out
          have bp := Utf.bytes_pos r hsc
          obtain ⟨b, eb⟩ : ∃ b : ByteArray, b = ⟨(Utf.bytes r).toArray⟩ := ⟨_, rfl⟩
          rw [hsc, ← eb] at en
          rw [← eb] at re
          have hbe : b.toList.isEmpty = false := by
            rw [eb, ByteArray.toList_mk]
            cases hq : Utf.bytes r with
            | nil => rw [hq] at bp; simp at bp
            | cons _ _ => rfl
          have En2 := Lib.hid en
          have Re2 := Lib.hid re
          clear en re eb hsc bp
          go_wp2_with fail
          refine (En2.out _ hTr).mono ?_; rintro e w2 ⟨rfl, b2, t2⟩
          go_wp2_with fail
          refine (Re2.out _).mono ?_; rintro e w3 ⟨rfl, b3⟩
          have t3 := t2.below b3
          go_wp2_with fail
          refine (Bd.out _ t3).mono ?_; rintro e w4 ⟨rfl, b4, t4⟩
          go_wp2_with fail
          refine (Rb.out _).mono ?_; rintro e w5 ⟨rfl, rfl⟩
          go_wp2_with fail
          refine (Ct.out _ t4).mono ?_; rintro e w6 ⟨rfl, b6, t6⟩
          go_wp2_with fail
          refine (Rc.out _).mono ?_; rintro e w7 ⟨rfl, rfl⟩
          go_wp2
          go_ret
          exact ⟨rfl, trans9 (trans9 (trans9 (trans9 (trans9 (trans9 b1 bW) hb) b2) b3) b4) b6⟩
  · have ds : decide ((300 : Int) < (s.size : Int)) = true := by simp; omega
    go_enter Tryd.func3, Tryd.ntmps3
    go_wp2_with fail
    refine (known_calls _ hT).mono ?_; rintro e w1 ⟨rfl, b1, t1⟩
    go_wp2
    go_ret
    exact ⟨rfl, b1⟩

end Go.Proofs.YtobaclonacpoeaaDoor
