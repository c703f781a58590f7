/- The walk of the law OpenCloses (layer 17). -/
import Derived.Test.YthniemoganoapaaDoorHpOwC
set_option maxRecDepth 100000
set_option linter.unusedVariables false
set_option linter.unusedSimpArgs false
namespace Go.Proofs.YthniemoganoapaaDoor
open Go.RowKit
attribute [local go_sem ↓] Go.wp_at_zero Go.wp_at_succ

set_option maxHeartbeats 32000000 in
theorem ocloses_walk (s : List UInt8) (c : Int) (w : World) (hm : s.length ≤ maxLen) (hc0 : 0 ≤ c) (hc1 : c ≤ 65535) (hT : OwT w w.heap.size) :
    Calls Tryd.prog 5 #[.string (str s), .int .u16 c] w fun e w' => e = .returned (.bool true) ∧ Below w.heap.size w w' := by
  have hsz := str_size s
  have hk0 := oknown_calls w hT
  have HT := Lib.hid (fun W (hb : Below w.heap.size w W) => hT.up hb)
  unfold maxLen at hm
  clear hT
  by_cases h1 : s.length ≤ 300
  rotate_left
  · have d1 : decide ((300 : Int) < (s.length : Int)) = true := decide_eq_true (by omega)
    have d1' : decide (300 < s.length) = true := decide_eq_true (by omega)
    go_enter Tryd.func5, Tryd.ntmps5
    go_wp2_with fail
    refine hk0.mono ?_; rintro e w1 ⟨rfl, b1⟩
    go_wp2
    go_ret
    exact ⟨rfl, b1⟩
  have d1 : decide ((300 : Int) < (s.length : Int)) = false := decide_eq_false (by omega)
  have d1' : decide (300 < s.length) = false := decide_eq_false (by omega)
  have HB0 := Lib.hid (fun W (hb : Below w.heap.size w W) => bad0_calls s W (HT.out W hb) (by omega))
  have HB9 := Lib.hid (fun t W (hb : Below w.heap.size w W) (hl : (t : List UInt8).length ≤ 1000) => bad0_calls t W (HT.out W hb) (by omega))
  have HLE := Lib.hid (fun t => Ow.bad_le t)
  obtain ⟨l1, l2⟩ := Ow.bad_le s
  have HCl := Lib.hid (fun k (h : Ow.bad s < 0 ∧ k ≤ s.length ∨ Ow.bad s = (k : Int)) => Ow.close_some h)
  obtain ⟨K, hK⟩ : ∃ K, K = Ow.bad s := ⟨_, rfl⟩
  rw [← hK] at HB0 l1 l2 HCl
  clear hK
  have hend : Hid (∀ k : Nat, k ≤ s.length → (K < 0 ∧ k ≤ s.length ∨ K = (k : Int)) → ∀ W, Calls Tryd.prog 16 #[.int .i64 1, .string (str (s.take k))] W fun e w' => (∃ t, e = .returned (.tuple #[.string (str t), .bool true]) ∧ Ow.bad (s.take k ++ t) = -1 ∧ t.length ≤ 40) ∧ Below W.heap.size W w') := Lib.hid (fun k hkl hk W =>
    (hclose_calls (s.take k) W (by rw [List.length_take]; omega) (HCl.out k hk)).mono fun e w' ⟨⟨t, h1, h2, h3⟩, h4⟩ => ⟨⟨t, h1, by have := (HLE.out (s.take k ++ t)).1; omega, h3⟩, h4⟩)
  clear HCl
  by_cases h0 : K < 0
  · have d2 : decide (K < 0) = true := decide_eq_true h0
    obtain ⟨C, rfl⟩ : ∃ C : Nat, c = C := ⟨c.toNat, by omega⟩
    obtain ⟨k, hk⟩ : ∃ k, k = C % (s.length + 1) := ⟨_, rfl⟩
    have hkl : k ≤ s.length := by rw [hk]; exact Nat.lt_succ_iff.1 (Nat.mod_lt _ (Nat.succ_pos _))
    have hwl : IntKind.i64.wrap ((s.length : Int) + 1) = (s.length : Int) + 1 := IntWalk.i64_in _ (by omega)
    have hnz : ¬ ((s.length : Int) + 1 = 0) := by omega
    have hzb : (((s.length : Int) + 1) == 0) = false := beq_eq_false_iff_ne.2 hnz
    have ht1 : Int.tmod (C : Int) ((s.length : Int) + 1) = (k : Int) := by
      rw [show (s.length : Int) + 1 = ((s.length + 1 : Nat) : Int) by omega, ← Int.ofNat_tmod, hk]
    have ht2 : (C : Int) % ((s.length : Int) + 1) = (k : Int) := by
      rw [show (s.length : Int) + 1 = ((s.length + 1 : Nat) : Int) by omega, hk]; first | exact (Int.ofNat_emod _ _).symm | exact (Int.natCast_emod _ _).symm | rfl
    have hwk : IntKind.i64.wrap (k : Int) = (k : Int) := IntWalk.i64_in _ (by omega)
    have hwC : IntKind.i64.wrap (C : Int) = (C : Int) := IntWalk.i64_in _ (by omega)
    clear hk
    have d5 : decide ((s.length : Int) < (k : Int)) = false := decide_eq_false (by omega)
    have d5' : decide (s.length < k) = false := decide_eq_false (by omega)
    have hcut := cut_to s (k : Int) k rfl hkl
    have hCl := Lib.hid (hend.out k hkl (Or.inl ⟨h0, hkl⟩))
    clear hend
    go_enter Tryd.func5, Tryd.ntmps5
    go_wp2_with fail
    refine hk0.mono ?_; rintro e w1 ⟨rfl, b1⟩
    go_wp2_with fail
    refine (HB0.out w1 b1).mono ?_; rintro e w2 ⟨rfl, b2⟩
    have B2 := Lib.hid (tr17 b1 b2)
    clear b1 b2 hk0 HB0
    go_wp2_with fail
    refine (hCl.out w2).mono ?_; rintro e w3 ⟨⟨t, rfl, ht, htl⟩, b3⟩
    have B3 := Lib.hid (tr17 B2.out b3)
    have hln : (s.take k).length ≤ 300 := by rw [List.length_take]; omega
    have hadd := add_st (s.take k) t (by omega)
    have hB := HB9.out (s.take k ++ t) w3 B3.out (by rw [List.length_append]; omega)
    rw [ht] at hB
    clear b3 B2 hCl HB9 ht hln
    go_wp2_with fail
    refine hB.mono ?_; rintro e w4 ⟨rfl, b4⟩
    have B4 := Lib.hid (tr17 B3.out b4)
    clear b4 B3 hB
    go_wp2
    go_ret
    exact ⟨rfl, B4.out⟩
  · obtain ⟨k, rfl⟩ : ∃ k : Nat, K = k := ⟨K.toNat, by omega⟩
    have hkl : k ≤ s.length := by omega
    have d2 : decide ((k : Int) < 0) = false := decide_eq_false (by omega)
    have d5 : decide ((s.length : Int) < (k : Int)) = false := decide_eq_false (by omega)
    have d5' : decide (s.length < k) = false := decide_eq_false (by omega)
    have hcut := cut_to s (k : Int) k rfl hkl
    have hCl := Lib.hid (hend.out k hkl (Or.inr rfl))
    clear hend
    go_enter Tryd.func5, Tryd.ntmps5
    go_wp2_with fail
    refine hk0.mono ?_; rintro e w1 ⟨rfl, b1⟩
    go_wp2_with fail
    refine (HB0.out w1 b1).mono ?_; rintro e w2 ⟨rfl, b2⟩
    have B2 := Lib.hid (tr17 b1 b2)
    clear b1 b2 hk0 HB0
    go_wp2_with fail
    refine (hCl.out w2).mono ?_; rintro e w3 ⟨⟨t, rfl, ht, htl⟩, b3⟩
    have B3 := Lib.hid (tr17 B2.out b3)
    have hln : (s.take k).length ≤ 300 := by rw [List.length_take]; omega
    have hadd := add_st (s.take k) t (by omega)
    have hB := HB9.out (s.take k ++ t) w3 B3.out (by rw [List.length_append]; omega)
    rw [ht] at hB
    clear b3 B2 hCl HB9 ht hln
    go_wp2_with fail
    refine hB.mono ?_; rintro e w4 ⟨rfl, b4⟩
    have B4 := Lib.hid (tr17 B3.out b4)
    clear b4 B3 hB
    go_wp2
    go_ret
    exact ⟨rfl, B4.out⟩

end Go.Proofs.YthniemoganoapaaDoor
