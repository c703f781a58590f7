/- The walks of package sum's digits: plus, minus, down. -/
import Derived.Test.YtpciohnnnpgpiaaSumB
import Derived.Laws.CopyRow
set_option linter.unusedVariables false
set_option linter.unusedSimpArgs false
namespace Go.Proofs.Ytpciohnnnpgpiaa
open Go.RowKit Dc

set_option maxRecDepth 100000 in
set_option maxHeartbeats 4000000 in
theorem plus_calls (x y : Nat) (w : World) :
    Calls Try.prog 45 #[.agg (sA (dgt x)), .agg (sA (dgt y))] w fun e w' => e = .returned (.agg (sA (dgt (x + y)))) ∧ Below w.heap.size w w' := by
  have hs := sA_size (dgt x)
  have hone := sA_one (dgt x)
  have hs2 := sA_size (dgt y)
  have hone2 := sA_one (dgt y)
  go_enter Try.func45, Try.ntmps45
  go_wp2_with fail
  rw [zeros_sA]
  have b1 := (Below.refl w.heap.size w).alloc (Nat.le_refl _) (.cells (sA (dgt x)) 43)
  have b2 := kb_alloc b1 (Nat.le_refl _) (.cells (sA (dgt y)) 43)
  have b3 := kb_alloc b2 (Nat.le_refl _) (.cells (sA (fun _ => 0)) 43)
  have d1 := ((SAt.new w (dgt x)).alloc (.cells (sA (dgt y)) 43)).alloc (.cells (sA (fun _ => 0)) 43)
  have d2 := (SAt.new (w.alloc (.cells (sA (dgt x)) 43)) (dgt y)).alloc (.cells (sA (fun _ => 0)) 43)
  have d3 := SAt.new ((w.alloc (.cells (sA (dgt x)) 43)).alloc (.cells (sA (dgt y)) 43)) (fun _ => 0)
  rw [show (w.alloc (.cells (sA (dgt x)) 43)).heap.size = w.heap.size + 1 by simp] at d2
  rw [show ((w.alloc (.cells (sA (dgt x)) 43)).alloc (.cells (sA (dgt y)) 43)).heap.size = w.heap.size + 2 by simp] at d3
  generalize ((w.alloc (.cells (sA (dgt x)) 43)).alloc (.cells (sA (dgt y)) 43)).alloc (.cells (sA (fun _ => 0)) 43) = W at *
  have HH := Lib.hid (⟨b3, d1, d2, d3⟩ : _ ∧ _ ∧ _ ∧ _)
  clear hs hone hs2 hone2 b1 b2 b3 d1 d2 d3
  go_loopw [5, 8] (fun s5 s8 wr => ∃ n c : Nat, n ≤ 55 ∧ c ≤ 1 ∧ s5 = .int .u8 (c : Nat) ∧ s8 = .int .i64 (n : Nat) ∧ Hid (c = cy x y n ∧ Below w.heap.size w wr ∧ SAt wr w.heap.size (fun i => if i < n then dgt (x + y) i else dgt x i) ∧ SAt wr (w.heap.size + 1) (dgt y) ∧ SAt wr (w.heap.size + 2) (fun _ => 0))) (fun _ s8 _ => 55 - (intOf s8).toNat)
  case atStart => exact ⟨0, 0, by omega, by omega, rfl, rfl, (cy_zero x y).symm, HH.out.1, HH.out.2.1.ext (fun i _ => by simp), HH.out.2.2.1, HH.out.2.2.2⟩
  case round =>
    clear HH
    obtain ⟨n, c, hn, hc1, rfl, rfl, H⟩ := hrel
    obtain ⟨hcy, hB, hd1, hd2, hd3⟩ := H.out
    by_cases h55 : n < 55
    · have c1 := hd1.cell n h55
      rw [if_neg (by omega)] at c1
      have c2 := hd2.cell n h55
      have f1 := hd1.free n
      have h9 := dgt_le x n
      have h9' := dgt_le y n
      have HH := Lib.hid (⟨hB, hd1, hd2, hd3⟩ : _ ∧ _ ∧ _ ∧ _)
      have hd := plus_dgt x y n
      have hcc := cy_step x y n
      rw [← hcy] at hd hcc
      have Hd := Lib.hid (⟨hd, hcc⟩ : _ ∧ _)
      clear hcy hB hd1 hd2 hd3 hd hcc H
      generalize hA : dgt x n = a at *
      generalize hBb : dgt y n = b at *
      clear hA hBb
      go_wp2_with fail
      go_quiet (fail)
      go_wp2_with fail
      go_roundw
      case rel =>
        have e1 : (((a : Int) + (b : Int) + (c : Int)) % 10) = (((a + b + c) % 10 : Nat) : Int) := by omega
        have e2 : (((a : Int) + (b : Int) + (c : Int)) / 10) = (((a + b + c) / 10 : Nat) : Int) := by omega
        obtain ⟨qB, q1, q2, q3⟩ := HH.out
        have q1' : SAt _ w.heap.size _ := ⟨q1.heap⟩
        rw [e1, e2]
        refine ⟨n + 1, (a + b + c) / 10, h55, by omega, rfl, by go_num, Hd.out.2.symm, Below.setCell (p := ⟨w.heap.size, n, none⟩) (below_drewN qB _) (by simp) _, ((SAt.drew q1).set n ((a + b + c) % 10)).ext fun i _ => ?_, (SAt.drew q2).other _ _ (by simp), (SAt.drew q3).other _ _ (by simp)⟩
        by_cases h : i = n
        · subst h; rw [if_pos rfl, if_pos (by omega), Hd.out.1]
        · rw [if_neg h]
          by_cases h3 : i < n
          · rw [if_pos h3, if_pos (by omega)]
          · rw [if_neg h3, if_neg (by omega)]
      case measure => simp [intOf]; omega
    · clear H
      go_wp2_with (first
        | (refine wpList_load_row rfl 43 _ rfl w.heap.size rfl 43 _ (0, 0) _ hd1.heap Try.underlying43 rfl (by rw [sA_size]; exact sum_info) ?_)
        | (refine wpList_store_row rfl 43 _ _ rfl (w.heap.size + 2) _ rfl rfl 43 _ hd3.heap (by rw [sA_size]; exact sum_info) (by rw [sA_size, sA_size]) (sA_one _) ?_))
      have hv := (hd3.row (fun i => if i < n then dgt (x + y) i else dgt x i)).value
      rw [sA_ext (z' := dgt (x + y)) (fun i hi => if_pos (by omega))] at hv ⊢
      refine bodyPost_ret (v := .agg (sA (dgt (x + y)))) (by simp [results, Try.results45, Act.put, asAddr, hv, Result.andThen]) rfl ⟨rfl, below_setRow hB (by omega) _⟩

set_option maxRecDepth 100000 in
set_option maxHeartbeats 4000000 in
theorem minus_calls (x y : Nat) (w : World) (hxy : y ≤ x) :
    Calls Try.prog 46 #[.agg (sA (dgt x)), .agg (sA (dgt y))] w fun e w' => e = .returned (.agg (sA (dgt (x - y)))) ∧ Below w.heap.size w w' := by
  have hs := sA_size (dgt x)
  have hone := sA_one (dgt x)
  have hs2 := sA_size (dgt y)
  have hone2 := sA_one (dgt y)
  have Hxy := Lib.hid hxy
  clear hxy
  go_enter Try.func46, Try.ntmps46
  go_wp2_with fail
  rw [zeros_sA]
  have b1 := (Below.refl w.heap.size w).alloc (Nat.le_refl _) (.cells (sA (dgt x)) 43)
  have b2 := kb_alloc b1 (Nat.le_refl _) (.cells (sA (dgt y)) 43)
  have b3 := kb_alloc b2 (Nat.le_refl _) (.cells (sA (fun _ => 0)) 43)
  have d1 := ((SAt.new w (dgt x)).alloc (.cells (sA (dgt y)) 43)).alloc (.cells (sA (fun _ => 0)) 43)
  have d2 := (SAt.new (w.alloc (.cells (sA (dgt x)) 43)) (dgt y)).alloc (.cells (sA (fun _ => 0)) 43)
  have d3 := SAt.new ((w.alloc (.cells (sA (dgt x)) 43)).alloc (.cells (sA (dgt y)) 43)) (fun _ => 0)
  rw [show (w.alloc (.cells (sA (dgt x)) 43)).heap.size = w.heap.size + 1 by simp] at d2
  rw [show ((w.alloc (.cells (sA (dgt x)) 43)).alloc (.cells (sA (dgt y)) 43)).heap.size = w.heap.size + 2 by simp] at d3
  generalize ((w.alloc (.cells (sA (dgt x)) 43)).alloc (.cells (sA (dgt y)) 43)).alloc (.cells (sA (fun _ => 0)) 43) = W at *
  have HH := Lib.hid (⟨b3, d1, d2, d3⟩ : _ ∧ _ ∧ _ ∧ _)
  clear hs hone hs2 hone2 b1 b2 b3 d1 d2 d3
  go_loopw [5, 8] (fun s5 s8 wr => ∃ n c : Nat, n ≤ 55 ∧ c ≤ 1 ∧ s5 = .int .u8 (c : Nat) ∧ s8 = .int .i64 (n : Nat) ∧ Hid (c = cy (x - y) y n ∧ Below w.heap.size w wr ∧ SAt wr w.heap.size (fun i => if i < n then dgt (x - y) i else dgt x i) ∧ SAt wr (w.heap.size + 1) (dgt y) ∧ SAt wr (w.heap.size + 2) (fun _ => 0))) (fun _ s8 _ => 55 - (intOf s8).toNat)
  case atStart => exact ⟨0, 0, by omega, by omega, rfl, rfl, (cy_zero _ y).symm, HH.out.1, HH.out.2.1.ext (fun i _ => by simp), HH.out.2.2.1, HH.out.2.2.2⟩
  case round =>
    clear HH
    obtain ⟨n, c, hn, hc1, rfl, rfl, H⟩ := hrel
    obtain ⟨hcy, hB, hd1, hd2, hd3⟩ := H.out
    by_cases h55 : n < 55
    · have c1 := hd1.cell n h55
      rw [if_neg (by omega)] at c1
      have c2 := hd2.cell n h55
      have f1 := hd1.free n
      have h9 := dgt_le x n
      have h9' := dgt_le y n
      have HH := Lib.hid (⟨hB, hd1, hd2, hd3⟩ : _ ∧ _ ∧ _ ∧ _)
      have hd := minus_dgt x y n Hxy.out
      rw [← hcy] at hd
      have Hd := Lib.hid hd
      clear hcy hB hd1 hd2 hd3 hd H
      generalize hA : dgt x n = a at *
      generalize hBb : dgt y n = b at *
      clear hA hBb
      go_wp2_with fail
      go_quiet (fail)
      go_wp2_with fail
      go_roundw
      case rel =>
        have e1 : ((10 + (a : Int) - (b : Int) - (c : Int)) % 10) = (((10 + a - b - c) % 10 : Nat) : Int) := by omega
        have e2 : (1 - (10 + (a : Int) - (b : Int) - (c : Int)) / 10) = ((1 - (10 + a - b - c) / 10 : Nat) : Int) := by omega
        obtain ⟨qB, q1, q2, q3⟩ := HH.out
        rw [e1, e2]
        refine ⟨n + 1, 1 - (10 + a - b - c) / 10, h55, by omega, rfl, by go_num, Hd.out.2.symm, Below.setCell (p := ⟨w.heap.size, n, none⟩) (below_drewN qB _) (by simp) _, ((SAt.drew q1).set n ((10 + a - b - c) % 10)).ext fun i _ => ?_, (SAt.drew q2).other _ _ (by simp), (SAt.drew q3).other _ _ (by simp)⟩
        by_cases h : i = n
        · subst h; rw [if_pos rfl, if_pos (by omega), Hd.out.1]
        · rw [if_neg h]
          by_cases h3 : i < n
          · rw [if_pos h3, if_pos (by omega)]
          · rw [if_neg h3, if_neg (by omega)]
      case measure => simp [intOf]; omega
    · clear H
      go_wp2_with (first
        | (refine wpList_load_row rfl 43 _ rfl w.heap.size rfl 43 _ (0, 0) _ hd1.heap Try.underlying43 rfl (by rw [sA_size]; exact sum_info) ?_)
        | (refine wpList_store_row rfl 43 _ _ rfl (w.heap.size + 2) _ rfl rfl 43 _ hd3.heap (by rw [sA_size]; exact sum_info) (by rw [sA_size, sA_size]) (sA_one _) ?_))
      have hv := (hd3.row (fun i => if i < n then dgt (x - y) i else dgt x i)).value
      rw [sA_ext (z' := dgt (x - y)) (fun i hi => if_pos (by omega))] at hv ⊢
      refine bodyPost_ret (v := .agg (sA (dgt (x - y)))) (by simp [results, Try.results46, Act.put, asAddr, hv, Result.andThen]) rfl ⟨rfl, below_setRow hB (by omega) _⟩

end Go.Proofs.Ytpciohnnnpgpiaa
