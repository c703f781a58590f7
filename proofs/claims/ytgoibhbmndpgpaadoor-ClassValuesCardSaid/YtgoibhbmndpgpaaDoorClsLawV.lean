/- The walk of the law ClassValues (layer 16). -/
import Derived.Test.YtgoibhbmndpgpaaDoorClsC
import Derived.Test.YtgoibhbmndpgpaaDoorChLawC0
import Derived.Test.YtgoibhbmndpgpaaDoorChLawC9
import Derived.Test.YtgoibhbmndpgpaaDoorChLawA
import Derived.Deep.RegionHeld3
import Derived.Deep.DrawnRows
import Derived.Deep.DeepCutAuto
set_option maxRecDepth 100000
set_option linter.unusedVariables false
set_option linter.unusedSimpArgs false
namespace Go.Proofs.YtgoibhbmndpgpaaDoor
open Go.RowKit Go.Sort Dc
attribute [local go_sem ↓] Go.wp_at_zero Go.wp_at_succ

theorem Kl.val_low (c : UInt8) : 0 ≤ c.toNat → c.toNat ≤ 31 → Kl.val 1 [c] = true ∧ Kl.val 2 [c] = false ∧ Kl.val 3 [c] = false ∧ Kl.val 4 [c] = false := by revert c; exact Ch.all_bytes (by decide +kernel)
theorem Kl.val_c32 (c : UInt8) : 32 ≤ c.toNat → c.toNat ≤ 32 → Kl.val 1 [c] = true ∧ Kl.val 2 [c] = true ∧ Kl.val 3 [c] = false ∧ Kl.val 4 [c] = false := by revert c; exact Ch.all_bytes (by decide +kernel)
theorem Kl.val_c44 (c : UInt8) : 44 ≤ c.toNat → c.toNat ≤ 44 → Kl.val 1 [c] = true ∧ Kl.val 2 [c] = true ∧ Kl.val 3 [c] = true ∧ Kl.val 4 [c] = false := by revert c; exact Ch.all_bytes (by decide +kernel)
theorem Kl.val_c59 (c : UInt8) : 59 ≤ c.toNat → c.toNat ≤ 59 → Kl.val 1 [c] = true ∧ Kl.val 2 [c] = true ∧ Kl.val 3 [c] = false ∧ Kl.val 4 [c] = true := by revert c; exact Ch.all_bytes (by decide +kernel)
theorem Kl.val_c92 (c : UInt8) : 92 ≤ c.toNat → c.toNat ≤ 92 → Kl.val 1 [c] = true ∧ Kl.val 2 [c] = false ∧ Kl.val 3 [c] = true ∧ Kl.val 4 [c] = true := by revert c; exact Ch.all_bytes (by decide +kernel)
theorem Kl.val_c124 (c : UInt8) : 124 ≤ c.toNat → c.toNat ≤ 124 → Kl.val 1 [c] = true ∧ Kl.val 2 [c] = true ∧ Kl.val 3 [c] = true ∧ Kl.val 4 [c] = false := by revert c; exact Ch.all_bytes (by decide +kernel)
theorem Kl.val_c127 (c : UInt8) : 127 ≤ c.toNat → c.toNat ≤ 127 → Kl.val 1 [c] = true ∧ Kl.val 2 [c] = false ∧ Kl.val 3 [c] = false ∧ Kl.val 4 [c] = false := by revert c; exact Ch.all_bytes (by decide +kernel)
theorem Kl.val_high (c : UInt8) : 128 ≤ c.toNat → c.toNat ≤ 255 → Kl.val 1 [c] = false ∧ Kl.val 2 [c] = false ∧ Kl.val 3 [c] = false ∧ Kl.val 4 [c] = false := by revert c; exact Ch.all_bytes (by decide +kernel)
theorem Kl.val_mid (c : UInt8) : 33 ≤ c.toNat → c.toNat ≤ 126 → c.toNat ≠ 44 → c.toNat ≠ 59 → c.toNat ≠ 92 → c.toNat ≠ 124 → Kl.val 1 [c] = true ∧ Kl.val 2 [c] = true ∧ Kl.val 3 [c] = true ∧ Kl.val 4 [c] = true := by revert c; exact Ch.all_bytes (by decide +kernel)
theorem Kl.val_rest : Kl.val 1 (Ch.nul 61) = false ∧ Kl.val 0 [97] = false ∧ Kl.val 2 [195, 169] = true ∧ Kl.val 3 [195, 169] = false := by decide +kernel

set_option maxHeartbeats 16000000 in
theorem cv_low (x : Int) (c : UInt8) (w : World) (hx : 0 ≤ x) (hx2 : x ≤ 31) (hc : x = (c.toNat : Int)) (hC : ClsC w) (hK : ∀ X, Below w.heap.size w X → Calls Tryd.prog 6 #[] X fun e w' => e = .returned (.bool true) ∧ Below X.heap.size X w') :
    Calls Tryd.prog 5 #[.int .u8 x] w fun e w' => e = .returned (.bool true) ∧ Below w.heap.size w w' := by
  have hs1 : strOfNums [x] = str [c] := by rw [hc]; exact str_ext (by simp [strOfNums])
  have r1 := fun (W : World) (b : Nat) (h : W.cell? ⟨b, 0, none⟩ = some (.int .u8 x)) => chconv1 h
  rw [hs1] at r1
  have hmk : ∀ w : World, (Instr.makeSlice 47 (.int .i64 61) (.int .i64 61)).run Tryd.prog w = .ok (.slice (some ⟨w.heap.size, 0, none⟩) 61 61) (w.alloc (.cells (madeCells #[.int .u8 0] 61) 5)) := fun w => Ch.nul_make 61 (by omega) w
  obtain ⟨v1, v2, v3, v4⟩ := Kl.val_low c (by omega) (by omega)
  obtain ⟨v5, v6, v7, v8⟩ := Kl.val_rest
  have H0 := Lib.hid (hK w (Below.refl _ _))
  have HC := Lib.hid hC
  have HL : Hid (∀ l : List UInt8, l.length ≤ 61 → l.length ≤ maxLen) := Lib.hid (fun l h => by unfold maxLen; omega)
  have d0 : decide (33 ≤ x) = false := decide_eq_false (by omega)
  have d1 : decide (x ≤ 126) = true := decide_eq_true (by omega)
  have d2 : decide (x < 128) = true := decide_eq_true (by omega)
  have d3 : decide (32 ≤ x) = false := decide_eq_false (by omega)
  have d4 : decide (x < 127) = true := decide_eq_true (by omega)
  have e92 : (x != 92) = true := chbne (by omega)
  have e59 : (x != 59) = true := chbne (by omega)
  have e44 : (x != 44) = true := chbne (by omega)
  have e124 : (x != 124) = true := chbne (by omega)
  have V1 := Lib.hid v1
  have V2 := Lib.hid v2
  have V3 := Lib.hid v3
  have V4 := Lib.hid v4
  have V5 := Lib.hid v5
  have V6 := Lib.hid v6
  have V7 := Lib.hid v7
  have V8 := Lib.hid v8
  clear v1 v2 v3 v4 v5 v6 v7 v8 hs1 hc hC hK hx hx2
  go_enter Tryd.func5, Tryd.ntmps5
  go_wp2_with fail
  refine H0.out.mono ?_; rintro e w1 ⟨rfl, b1⟩
  have K1 := Lib.hid b1
  clear b1 H0
  go_upto_region 5 with fail
  have ka := kp_alloc (Below.refl w1.heap.size w1) (.cells #[.int .u8 x] 5)
  have K2 := Lib.hid (trans9 K1.out ka)
  generalize w1.alloc (.cells #[.int .u8 x] 5) = w2 at *
  clear ka r1
  have hcv := Ch.nul_text (Ch.nul_made w2 61 5)
  go_upto_region 6 with fail
  have ka := kp_alloc (Below.refl w2.heap.size w2) (.cells (madeCells #[.int .u8 0] 61) 5)
  have K3 := Lib.hid (trans9 K2.out ka)
  generalize w2.alloc (.cells (madeCells #[.int .u8 0] 61) 5) = w3 at *
  clear ka hcv hmk K1 K2
  have c3 := HC.out.val 1 [c] w3 K3.out (HL.out _ (by first | decide | simp))
  rw [V1.out] at c3
  have C3 := Lib.hid c3
  clear c3
  go_wp2_with fail
  refine C3.out.mono ?_; rintro e w4 ⟨rfl, b4⟩
  have K4 := Lib.hid (trans9 K3.out b4)
  clear C3 K3 b4
  have c4 := HC.out.val 2 [c] w4 K4.out (HL.out _ (by first | decide | simp))
  rw [V2.out] at c4
  have C4 := Lib.hid c4
  clear c4
  go_wp2_with fail
  refine C4.out.mono ?_; rintro e w5 ⟨rfl, b5⟩
  have K5 := Lib.hid (trans9 K4.out b5)
  clear C4 K4 b5
  have c5 := HC.out.val 3 [c] w5 K5.out (HL.out _ (by first | decide | simp))
  rw [V3.out] at c5
  have C5 := Lib.hid c5
  clear c5
  go_wp2_with fail
  refine C5.out.mono ?_; rintro e w6 ⟨rfl, b6⟩
  have K6 := Lib.hid (trans9 K5.out b6)
  clear C5 K5 b6
  have c6 := HC.out.val 4 [c] w6 K6.out (HL.out _ (by first | decide | simp))
  rw [V4.out] at c6
  have C6 := Lib.hid c6
  clear c6
  go_wp2_with fail
  refine C6.out.mono ?_; rintro e w7 ⟨rfl, b7⟩
  have K7 := Lib.hid (trans9 K6.out b7)
  clear C6 K6 b7
  have c7 := HC.out.val 1 (Ch.nul 61) w7 K7.out (HL.out _ (by first | decide | simp))
  rw [V5.out] at c7
  have C7 := Lib.hid c7
  clear c7
  go_wp2_with fail
  refine C7.out.mono ?_; rintro e w8 ⟨rfl, b8⟩
  have K8 := Lib.hid (trans9 K7.out b8)
  clear C7 K7 b8
  have c8 := HC.out.val 0 [97] w8 K8.out (HL.out _ (by first | decide | simp))
  rw [V6.out] at c8
  have C8 := Lib.hid c8
  clear c8
  go_wp2_with fail
  refine C8.out.mono ?_; rintro e w9 ⟨rfl, b9⟩
  have K9 := Lib.hid (trans9 K8.out b9)
  clear C8 K8 b9
  have c9 := HC.out.val 2 [195, 169] w9 K9.out (HL.out _ (by first | decide | simp))
  rw [V7.out] at c9
  have C9 := Lib.hid c9
  clear c9
  go_wp2_with fail
  refine C9.out.mono ?_; rintro e w10 ⟨rfl, b10⟩
  have K10 := Lib.hid (trans9 K9.out b10)
  clear C9 K9 b10
  have c10 := HC.out.val 3 [195, 169] w10 K10.out (HL.out _ (by first | decide | simp))
  rw [V8.out] at c10
  have C10 := Lib.hid c10
  clear c10
  go_wp2_with fail
  refine C10.out.mono ?_; rintro e w11 ⟨rfl, b11⟩
  have K11 := Lib.hid (trans9 K10.out b11)
  clear C10 K10 b11
  go_wp2_with fail
  go_ret
  exact ⟨rfl, K11.out⟩
set_option maxHeartbeats 16000000 in
theorem cv_c32 (x : Int) (c : UInt8) (w : World) (hx : 32 ≤ x) (hx2 : x ≤ 32) (hc : x = (c.toNat : Int)) (hC : ClsC w) (hK : ∀ X, Below w.heap.size w X → Calls Tryd.prog 6 #[] X fun e w' => e = .returned (.bool true) ∧ Below X.heap.size X w') :
    Calls Tryd.prog 5 #[.int .u8 x] w fun e w' => e = .returned (.bool true) ∧ Below w.heap.size w w' := by
  have hs1 : strOfNums [x] = str [c] := by rw [hc]; exact str_ext (by simp [strOfNums])
  have r1 := fun (W : World) (b : Nat) (h : W.cell? ⟨b, 0, none⟩ = some (.int .u8 x)) => chconv1 h
  rw [hs1] at r1
  have hmk : ∀ w : World, (Instr.makeSlice 47 (.int .i64 61) (.int .i64 61)).run Tryd.prog w = .ok (.slice (some ⟨w.heap.size, 0, none⟩) 61 61) (w.alloc (.cells (madeCells #[.int .u8 0] 61) 5)) := fun w => Ch.nul_make 61 (by omega) w
  obtain ⟨v1, v2, v3, v4⟩ := Kl.val_c32 c (by omega) (by omega)
  obtain ⟨v5, v6, v7, v8⟩ := Kl.val_rest
  have H0 := Lib.hid (hK w (Below.refl _ _))
  have HC := Lib.hid hC
  have HL : Hid (∀ l : List UInt8, l.length ≤ 61 → l.length ≤ maxLen) := Lib.hid (fun l h => by unfold maxLen; omega)
  have d0 : decide (33 ≤ x) = false := decide_eq_false (by omega)
  have d1 : decide (x ≤ 126) = true := decide_eq_true (by omega)
  have d2 : decide (x < 128) = true := decide_eq_true (by omega)
  have d3 : decide (32 ≤ x) = true := decide_eq_true (by omega)
  have d4 : decide (x < 127) = true := decide_eq_true (by omega)
  have e92 : (x != 92) = true := chbne (by omega)
  have e59 : (x != 59) = true := chbne (by omega)
  have e44 : (x != 44) = true := chbne (by omega)
  have e124 : (x != 124) = true := chbne (by omega)
  have V1 := Lib.hid v1
  have V2 := Lib.hid v2
  have V3 := Lib.hid v3
  have V4 := Lib.hid v4
  have V5 := Lib.hid v5
  have V6 := Lib.hid v6
  have V7 := Lib.hid v7
  have V8 := Lib.hid v8
  clear v1 v2 v3 v4 v5 v6 v7 v8 hs1 hc hC hK hx hx2
  go_enter Tryd.func5, Tryd.ntmps5
  go_wp2_with fail
  refine H0.out.mono ?_; rintro e w1 ⟨rfl, b1⟩
  have K1 := Lib.hid b1
  clear b1 H0
  go_upto_region 5 with fail
  have ka := kp_alloc (Below.refl w1.heap.size w1) (.cells #[.int .u8 x] 5)
  have K2 := Lib.hid (trans9 K1.out ka)
  generalize w1.alloc (.cells #[.int .u8 x] 5) = w2 at *
  clear ka r1
  have hcv := Ch.nul_text (Ch.nul_made w2 61 5)
  go_upto_region 6 with fail
  have ka := kp_alloc (Below.refl w2.heap.size w2) (.cells (madeCells #[.int .u8 0] 61) 5)
  have K3 := Lib.hid (trans9 K2.out ka)
  generalize w2.alloc (.cells (madeCells #[.int .u8 0] 61) 5) = w3 at *
  clear ka hcv hmk K1 K2
  have c3 := HC.out.val 1 [c] w3 K3.out (HL.out _ (by first | decide | simp))
  rw [V1.out] at c3
  have C3 := Lib.hid c3
  clear c3
  go_wp2_with fail
  refine C3.out.mono ?_; rintro e w4 ⟨rfl, b4⟩
  have K4 := Lib.hid (trans9 K3.out b4)
  clear C3 K3 b4
  have c4 := HC.out.val 2 [c] w4 K4.out (HL.out _ (by first | decide | simp))
  rw [V2.out] at c4
  have C4 := Lib.hid c4
  clear c4
  go_wp2_with fail
  refine C4.out.mono ?_; rintro e w5 ⟨rfl, b5⟩
  have K5 := Lib.hid (trans9 K4.out b5)
  clear C4 K4 b5
  have c5 := HC.out.val 3 [c] w5 K5.out (HL.out _ (by first | decide | simp))
  rw [V3.out] at c5
  have C5 := Lib.hid c5
  clear c5
  go_wp2_with fail
  refine C5.out.mono ?_; rintro e w6 ⟨rfl, b6⟩
  have K6 := Lib.hid (trans9 K5.out b6)
  clear C5 K5 b6
  have c6 := HC.out.val 4 [c] w6 K6.out (HL.out _ (by first | decide | simp))
  rw [V4.out] at c6
  have C6 := Lib.hid c6
  clear c6
  go_wp2_with fail
  refine C6.out.mono ?_; rintro e w7 ⟨rfl, b7⟩
  have K7 := Lib.hid (trans9 K6.out b7)
  clear C6 K6 b7
  have c7 := HC.out.val 1 (Ch.nul 61) w7 K7.out (HL.out _ (by first | decide | simp))
  rw [V5.out] at c7
  have C7 := Lib.hid c7
  clear c7
  go_wp2_with fail
  refine C7.out.mono ?_; rintro e w8 ⟨rfl, b8⟩
  have K8 := Lib.hid (trans9 K7.out b8)
  clear C7 K7 b8
  have c8 := HC.out.val 0 [97] w8 K8.out (HL.out _ (by first | decide | simp))
  rw [V6.out] at c8
  have C8 := Lib.hid c8
  clear c8
  go_wp2_with fail
  refine C8.out.mono ?_; rintro e w9 ⟨rfl, b9⟩
  have K9 := Lib.hid (trans9 K8.out b9)
  clear C8 K8 b9
  have c9 := HC.out.val 2 [195, 169] w9 K9.out (HL.out _ (by first | decide | simp))
  rw [V7.out] at c9
  have C9 := Lib.hid c9
  clear c9
  go_wp2_with fail
  refine C9.out.mono ?_; rintro e w10 ⟨rfl, b10⟩
  have K10 := Lib.hid (trans9 K9.out b10)
  clear C9 K9 b10
  have c10 := HC.out.val 3 [195, 169] w10 K10.out (HL.out _ (by first | decide | simp))
  rw [V8.out] at c10
  have C10 := Lib.hid c10
  clear c10
  go_wp2_with fail
  refine C10.out.mono ?_; rintro e w11 ⟨rfl, b11⟩
  have K11 := Lib.hid (trans9 K10.out b11)
  clear C10 K10 b11
  go_wp2_with fail
  go_ret
  exact ⟨rfl, K11.out⟩
set_option maxHeartbeats 16000000 in
theorem cv_c44 (x : Int) (c : UInt8) (w : World) (hx : 44 ≤ x) (hx2 : x ≤ 44) (hc : x = (c.toNat : Int)) (hC : ClsC w) (hK : ∀ X, Below w.heap.size w X → Calls Tryd.prog 6 #[] X fun e w' => e = .returned (.bool true) ∧ Below X.heap.size X w') :
    Calls Tryd.prog 5 #[.int .u8 x] w fun e w' => e = .returned (.bool true) ∧ Below w.heap.size w w' := by
  have hs1 : strOfNums [x] = str [c] := by rw [hc]; exact str_ext (by simp [strOfNums])
  have r1 := fun (W : World) (b : Nat) (h : W.cell? ⟨b, 0, none⟩ = some (.int .u8 x)) => chconv1 h
  rw [hs1] at r1
  have hmk : ∀ w : World, (Instr.makeSlice 47 (.int .i64 61) (.int .i64 61)).run Tryd.prog w = .ok (.slice (some ⟨w.heap.size, 0, none⟩) 61 61) (w.alloc (.cells (madeCells #[.int .u8 0] 61) 5)) := fun w => Ch.nul_make 61 (by omega) w
  obtain ⟨v1, v2, v3, v4⟩ := Kl.val_c44 c (by omega) (by omega)
  obtain ⟨v5, v6, v7, v8⟩ := Kl.val_rest
  have H0 := Lib.hid (hK w (Below.refl _ _))
  have HC := Lib.hid hC
  have HL : Hid (∀ l : List UInt8, l.length ≤ 61 → l.length ≤ maxLen) := Lib.hid (fun l h => by unfold maxLen; omega)
  have d0 : decide (33 ≤ x) = true := decide_eq_true (by omega)
  have d1 : decide (x ≤ 126) = true := decide_eq_true (by omega)
  have d2 : decide (x < 128) = true := decide_eq_true (by omega)
  have d3 : decide (32 ≤ x) = true := decide_eq_true (by omega)
  have d4 : decide (x < 127) = true := decide_eq_true (by omega)
  have e92 : (x != 92) = true := chbne (by omega)
  have e59 : (x != 59) = true := chbne (by omega)
  have e44 : (x != 44) = false := by simp; omega
  have e124 : (x != 124) = true := chbne (by omega)
  have V1 := Lib.hid v1
  have V2 := Lib.hid v2
  have V3 := Lib.hid v3
  have V4 := Lib.hid v4
  have V5 := Lib.hid v5
  have V6 := Lib.hid v6
  have V7 := Lib.hid v7
  have V8 := Lib.hid v8
  clear v1 v2 v3 v4 v5 v6 v7 v8 hs1 hc hC hK hx hx2
  go_enter Tryd.func5, Tryd.ntmps5
  go_wp2_with fail
  refine H0.out.mono ?_; rintro e w1 ⟨rfl, b1⟩
  have K1 := Lib.hid b1
  clear b1 H0
  go_upto_region 5 with fail
  have ka := kp_alloc (Below.refl w1.heap.size w1) (.cells #[.int .u8 x] 5)
  have K2 := Lib.hid (trans9 K1.out ka)
  generalize w1.alloc (.cells #[.int .u8 x] 5) = w2 at *
  clear ka r1
  have hcv := Ch.nul_text (Ch.nul_made w2 61 5)
  go_upto_region 6 with fail
  have ka := kp_alloc (Below.refl w2.heap.size w2) (.cells (madeCells #[.int .u8 0] 61) 5)
  have K3 := Lib.hid (trans9 K2.out ka)
  generalize w2.alloc (.cells (madeCells #[.int .u8 0] 61) 5) = w3 at *
  clear ka hcv hmk K1 K2
  have c3 := HC.out.val 1 [c] w3 K3.out (HL.out _ (by first | decide | simp))
  rw [V1.out] at c3
  have C3 := Lib.hid c3
  clear c3
  go_wp2_with fail
  refine C3.out.mono ?_; rintro e w4 ⟨rfl, b4⟩
  have K4 := Lib.hid (trans9 K3.out b4)
  clear C3 K3 b4
  have c4 := HC.out.val 2 [c] w4 K4.out (HL.out _ (by first | decide | simp))
  rw [V2.out] at c4
  have C4 := Lib.hid c4
  clear c4
  go_wp2_with fail
  refine C4.out.mono ?_; rintro e w5 ⟨rfl, b5⟩
  have K5 := Lib.hid (trans9 K4.out b5)
  clear C4 K4 b5
  have c5 := HC.out.val 3 [c] w5 K5.out (HL.out _ (by first | decide | simp))
  rw [V3.out] at c5
  have C5 := Lib.hid c5
  clear c5
  go_wp2_with fail
  refine C5.out.mono ?_; rintro e w6 ⟨rfl, b6⟩
  have K6 := Lib.hid (trans9 K5.out b6)
  clear C5 K5 b6
  have c6 := HC.out.val 4 [c] w6 K6.out (HL.out _ (by first | decide | simp))
  rw [V4.out] at c6
  have C6 := Lib.hid c6
  clear c6
  go_wp2_with fail
  refine C6.out.mono ?_; rintro e w7 ⟨rfl, b7⟩
  have K7 := Lib.hid (trans9 K6.out b7)
  clear C6 K6 b7
  have c7 := HC.out.val 1 (Ch.nul 61) w7 K7.out (HL.out _ (by first | decide | simp))
  rw [V5.out] at c7
  have C7 := Lib.hid c7
  clear c7
  go_wp2_with fail
  refine C7.out.mono ?_; rintro e w8 ⟨rfl, b8⟩
  have K8 := Lib.hid (trans9 K7.out b8)
  clear C7 K7 b8
  have c8 := HC.out.val 0 [97] w8 K8.out (HL.out _ (by first | decide | simp))
  rw [V6.out] at c8
  have C8 := Lib.hid c8
  clear c8
  go_wp2_with fail
  refine C8.out.mono ?_; rintro e w9 ⟨rfl, b9⟩
  have K9 := Lib.hid (trans9 K8.out b9)
  clear C8 K8 b9
  have c9 := HC.out.val 2 [195, 169] w9 K9.out (HL.out _ (by first | decide | simp))
  rw [V7.out] at c9
  have C9 := Lib.hid c9
  clear c9
  go_wp2_with fail
  refine C9.out.mono ?_; rintro e w10 ⟨rfl, b10⟩
  have K10 := Lib.hid (trans9 K9.out b10)
  clear C9 K9 b10
  have c10 := HC.out.val 3 [195, 169] w10 K10.out (HL.out _ (by first | decide | simp))
  rw [V8.out] at c10
  have C10 := Lib.hid c10
  clear c10
  go_wp2_with fail
  refine C10.out.mono ?_; rintro e w11 ⟨rfl, b11⟩
  have K11 := Lib.hid (trans9 K10.out b11)
  clear C10 K10 b11
  go_wp2_with fail
  go_ret
  exact ⟨rfl, K11.out⟩
set_option maxHeartbeats 16000000 in
theorem cv_c59 (x : Int) (c : UInt8) (w : World) (hx : 59 ≤ x) (hx2 : x ≤ 59) (hc : x = (c.toNat : Int)) (hC : ClsC w) (hK : ∀ X, Below w.heap.size w X → Calls Tryd.prog 6 #[] X fun e w' => e = .returned (.bool true) ∧ Below X.heap.size X w') :
    Calls Tryd.prog 5 #[.int .u8 x] w fun e w' => e = .returned (.bool true) ∧ Below w.heap.size w w' := by
  have hs1 : strOfNums [x] = str [c] := by rw [hc]; exact str_ext (by simp [strOfNums])
  have r1 := fun (W : World) (b : Nat) (h : W.cell? ⟨b, 0, none⟩ = some (.int .u8 x)) => chconv1 h
  rw [hs1] at r1
  have hmk : ∀ w : World, (Instr.makeSlice 47 (.int .i64 61) (.int .i64 61)).run Tryd.prog w = .ok (.slice (some ⟨w.heap.size, 0, none⟩) 61 61) (w.alloc (.cells (madeCells #[.int .u8 0] 61) 5)) := fun w => Ch.nul_make 61 (by omega) w
  obtain ⟨v1, v2, v3, v4⟩ := Kl.val_c59 c (by omega) (by omega)
  obtain ⟨v5, v6, v7, v8⟩ := Kl.val_rest
  have H0 := Lib.hid (hK w (Below.refl _ _))
  have HC := Lib.hid hC
  have HL : Hid (∀ l : List UInt8, l.length ≤ 61 → l.length ≤ maxLen) := Lib.hid (fun l h => by unfold maxLen; omega)
  have d0 : decide (33 ≤ x) = true := decide_eq_true (by omega)
  have d1 : decide (x ≤ 126) = true := decide_eq_true (by omega)
  have d2 : decide (x < 128) = true := decide_eq_true (by omega)
  have d3 : decide (32 ≤ x) = true := decide_eq_true (by omega)
  have d4 : decide (x < 127) = true := decide_eq_true (by omega)
  have e92 : (x != 92) = true := chbne (by omega)
  have e59 : (x != 59) = false := by simp; omega
  have e44 : (x != 44) = true := chbne (by omega)
  have e124 : (x != 124) = true := chbne (by omega)
  have V1 := Lib.hid v1
  have V2 := Lib.hid v2
  have V3 := Lib.hid v3
  have V4 := Lib.hid v4
  have V5 := Lib.hid v5
  have V6 := Lib.hid v6
  have V7 := Lib.hid v7
  have V8 := Lib.hid v8
  clear v1 v2 v3 v4 v5 v6 v7 v8 hs1 hc hC hK hx hx2
  go_enter Tryd.func5, Tryd.ntmps5
  go_wp2_with fail
  refine H0.out.mono ?_; rintro e w1 ⟨rfl, b1⟩
  have K1 := Lib.hid b1
  clear b1 H0
  go_upto_region 5 with fail
  have ka := kp_alloc (Below.refl w1.heap.size w1) (.cells #[.int .u8 x] 5)
  have K2 := Lib.hid (trans9 K1.out ka)
  generalize w1.alloc (.cells #[.int .u8 x] 5) = w2 at *
  clear ka r1
  have hcv := Ch.nul_text (Ch.nul_made w2 61 5)
  go_upto_region 6 with fail
  have ka := kp_alloc (Below.refl w2.heap.size w2) (.cells (madeCells #[.int .u8 0] 61) 5)
  have K3 := Lib.hid (trans9 K2.out ka)
  generalize w2.alloc (.cells (madeCells #[.int .u8 0] 61) 5) = w3 at *
  clear ka hcv hmk K1 K2
  have c3 := HC.out.val 1 [c] w3 K3.out (HL.out _ (by first | decide | simp))
  rw [V1.out] at c3
  have C3 := Lib.hid c3
  clear c3
  go_wp2_with fail
  refine C3.out.mono ?_; rintro e w4 ⟨rfl, b4⟩
  have K4 := Lib.hid (trans9 K3.out b4)
  clear C3 K3 b4
  have c4 := HC.out.val 2 [c] w4 K4.out (HL.out _ (by first | decide | simp))
  rw [V2.out] at c4
  have C4 := Lib.hid c4
  clear c4
  go_wp2_with fail
  refine C4.out.mono ?_; rintro e w5 ⟨rfl, b5⟩
  have K5 := Lib.hid (trans9 K4.out b5)
  clear C4 K4 b5
  have c5 := HC.out.val 3 [c] w5 K5.out (HL.out _ (by first | decide | simp))
  rw [V3.out] at c5
  have C5 := Lib.hid c5
  clear c5
  go_wp2_with fail
  refine C5.out.mono ?_; rintro e w6 ⟨rfl, b6⟩
  have K6 := Lib.hid (trans9 K5.out b6)
  clear C5 K5 b6
  have c6 := HC.out.val 4 [c] w6 K6.out (HL.out _ (by first | decide | simp))
  rw [V4.out] at c6
  have C6 := Lib.hid c6
  clear c6
  go_wp2_with fail
  refine C6.out.mono ?_; rintro e w7 ⟨rfl, b7⟩
  have K7 := Lib.hid (trans9 K6.out b7)
  clear C6 K6 b7
  have c7 := HC.out.val 1 (Ch.nul 61) w7 K7.out (HL.out _ (by first | decide | simp))
  rw [V5.out] at c7
  have C7 := Lib.hid c7
  clear c7
  go_wp2_with fail
  refine C7.out.mono ?_; rintro e w8 ⟨rfl, b8⟩
  have K8 := Lib.hid (trans9 K7.out b8)
  clear C7 K7 b8
  have c8 := HC.out.val 0 [97] w8 K8.out (HL.out _ (by first | decide | simp))
  rw [V6.out] at c8
  have C8 := Lib.hid c8
  clear c8
  go_wp2_with fail
  refine C8.out.mono ?_; rintro e w9 ⟨rfl, b9⟩
  have K9 := Lib.hid (trans9 K8.out b9)
  clear C8 K8 b9
  have c9 := HC.out.val 2 [195, 169] w9 K9.out (HL.out _ (by first | decide | simp))
  rw [V7.out] at c9
  have C9 := Lib.hid c9
  clear c9
  go_wp2_with fail
  refine C9.out.mono ?_; rintro e w10 ⟨rfl, b10⟩
  have K10 := Lib.hid (trans9 K9.out b10)
  clear C9 K9 b10
  have c10 := HC.out.val 3 [195, 169] w10 K10.out (HL.out _ (by first | decide | simp))
  rw [V8.out] at c10
  have C10 := Lib.hid c10
  clear c10
  go_wp2_with fail
  refine C10.out.mono ?_; rintro e w11 ⟨rfl, b11⟩
  have K11 := Lib.hid (trans9 K10.out b11)
  clear C10 K10 b11
  go_wp2_with fail
  go_ret
  exact ⟨rfl, K11.out⟩
set_option maxHeartbeats 16000000 in
theorem cv_c92 (x : Int) (c : UInt8) (w : World) (hx : 92 ≤ x) (hx2 : x ≤ 92) (hc : x = (c.toNat : Int)) (hC : ClsC w) (hK : ∀ X, Below w.heap.size w X → Calls Tryd.prog 6 #[] X fun e w' => e = .returned (.bool true) ∧ Below X.heap.size X w') :
    Calls Tryd.prog 5 #[.int .u8 x] w fun e w' => e = .returned (.bool true) ∧ Below w.heap.size w w' := by
  have hs1 : strOfNums [x] = str [c] := by rw [hc]; exact str_ext (by simp [strOfNums])
  have r1 := fun (W : World) (b : Nat) (h : W.cell? ⟨b, 0, none⟩ = some (.int .u8 x)) => chconv1 h
  rw [hs1] at r1
  have hmk : ∀ w : World, (Instr.makeSlice 47 (.int .i64 61) (.int .i64 61)).run Tryd.prog w = .ok (.slice (some ⟨w.heap.size, 0, none⟩) 61 61) (w.alloc (.cells (madeCells #[.int .u8 0] 61) 5)) := fun w => Ch.nul_make 61 (by omega) w
  obtain ⟨v1, v2, v3, v4⟩ := Kl.val_c92 c (by omega) (by omega)
  obtain ⟨v5, v6, v7, v8⟩ := Kl.val_rest
  have H0 := Lib.hid (hK w (Below.refl _ _))
  have HC := Lib.hid hC
  have HL : Hid (∀ l : List UInt8, l.length ≤ 61 → l.length ≤ maxLen) := Lib.hid (fun l h => by unfold maxLen; omega)
  have d0 : decide (33 ≤ x) = true := decide_eq_true (by omega)
  have d1 : decide (x ≤ 126) = true := decide_eq_true (by omega)
  have d2 : decide (x < 128) = true := decide_eq_true (by omega)
  have d3 : decide (32 ≤ x) = true := decide_eq_true (by omega)
  have d4 : decide (x < 127) = true := decide_eq_true (by omega)
  have e92 : (x != 92) = false := by simp; omega
  have e59 : (x != 59) = true := chbne (by omega)
  have e44 : (x != 44) = true := chbne (by omega)
  have e124 : (x != 124) = true := chbne (by omega)
  have V1 := Lib.hid v1
  have V2 := Lib.hid v2
  have V3 := Lib.hid v3
  have V4 := Lib.hid v4
  have V5 := Lib.hid v5
  have V6 := Lib.hid v6
  have V7 := Lib.hid v7
  have V8 := Lib.hid v8
  clear v1 v2 v3 v4 v5 v6 v7 v8 hs1 hc hC hK hx hx2
  go_enter Tryd.func5, Tryd.ntmps5
  go_wp2_with fail
  refine H0.out.mono ?_; rintro e w1 ⟨rfl, b1⟩
  have K1 := Lib.hid b1
  clear b1 H0
  go_upto_region 5 with fail
  have ka := kp_alloc (Below.refl w1.heap.size w1) (.cells #[.int .u8 x] 5)
  have K2 := Lib.hid (trans9 K1.out ka)
  generalize w1.alloc (.cells #[.int .u8 x] 5) = w2 at *
  clear ka r1
  have hcv := Ch.nul_text (Ch.nul_made w2 61 5)
  go_upto_region 6 with fail
  have ka := kp_alloc (Below.refl w2.heap.size w2) (.cells (madeCells #[.int .u8 0] 61) 5)
  have K3 := Lib.hid (trans9 K2.out ka)
  generalize w2.alloc (.cells (madeCells #[.int .u8 0] 61) 5) = w3 at *
  clear ka hcv hmk K1 K2
  have c3 := HC.out.val 1 [c] w3 K3.out (HL.out _ (by first | decide | simp))
  rw [V1.out] at c3
  have C3 := Lib.hid c3
  clear c3
  go_wp2_with fail
  refine C3.out.mono ?_; rintro e w4 ⟨rfl, b4⟩
  have K4 := Lib.hid (trans9 K3.out b4)
  clear C3 K3 b4
  have c4 := HC.out.val 2 [c] w4 K4.out (HL.out _ (by first | decide | simp))
  rw [V2.out] at c4
  have C4 := Lib.hid c4
  clear c4
  go_wp2_with fail
  refine C4.out.mono ?_; rintro e w5 ⟨rfl, b5⟩
  have K5 := Lib.hid (trans9 K4.out b5)
  clear C4 K4 b5
  have c5 := HC.out.val 3 [c] w5 K5.out (HL.out _ (by first | decide | simp))
  rw [V3.out] at c5
  have C5 := Lib.hid c5
  clear c5
  go_wp2_with fail
  refine C5.out.mono ?_; rintro e w6 ⟨rfl, b6⟩
  have K6 := Lib.hid (trans9 K5.out b6)
  clear C5 K5 b6
  have c6 := HC.out.val 4 [c] w6 K6.out (HL.out _ (by first | decide | simp))
  rw [V4.out] at c6
  have C6 := Lib.hid c6
  clear c6
  go_wp2_with fail
  refine C6.out.mono ?_; rintro e w7 ⟨rfl, b7⟩
  have K7 := Lib.hid (trans9 K6.out b7)
  clear C6 K6 b7
  have c7 := HC.out.val 1 (Ch.nul 61) w7 K7.out (HL.out _ (by first | decide | simp))
  rw [V5.out] at c7
  have C7 := Lib.hid c7
  clear c7
  go_wp2_with fail
  refine C7.out.mono ?_; rintro e w8 ⟨rfl, b8⟩
  have K8 := Lib.hid (trans9 K7.out b8)
  clear C7 K7 b8
  have c8 := HC.out.val 0 [97] w8 K8.out (HL.out _ (by first | decide | simp))
  rw [V6.out] at c8
  have C8 := Lib.hid c8
  clear c8
  go_wp2_with fail
  refine C8.out.mono ?_; rintro e w9 ⟨rfl, b9⟩
  have K9 := Lib.hid (trans9 K8.out b9)
  clear C8 K8 b9
  have c9 := HC.out.val 2 [195, 169] w9 K9.out (HL.out _ (by first | decide | simp))
  rw [V7.out] at c9
  have C9 := Lib.hid c9
  clear c9
  go_wp2_with fail
  refine C9.out.mono ?_; rintro e w10 ⟨rfl, b10⟩
  have K10 := Lib.hid (trans9 K9.out b10)
  clear C9 K9 b10
  have c10 := HC.out.val 3 [195, 169] w10 K10.out (HL.out _ (by first | decide | simp))
  rw [V8.out] at c10
  have C10 := Lib.hid c10
  clear c10
  go_wp2_with fail
  refine C10.out.mono ?_; rintro e w11 ⟨rfl, b11⟩
  have K11 := Lib.hid (trans9 K10.out b11)
  clear C10 K10 b11
  go_wp2_with fail
  go_ret
  exact ⟨rfl, K11.out⟩
set_option maxHeartbeats 16000000 in
theorem cv_c124 (x : Int) (c : UInt8) (w : World) (hx : 124 ≤ x) (hx2 : x ≤ 124) (hc : x = (c.toNat : Int)) (hC : ClsC w) (hK : ∀ X, Below w.heap.size w X → Calls Tryd.prog 6 #[] X fun e w' => e = .returned (.bool true) ∧ Below X.heap.size X w') :
    Calls Tryd.prog 5 #[.int .u8 x] w fun e w' => e = .returned (.bool true) ∧ Below w.heap.size w w' := by
  have hs1 : strOfNums [x] = str [c] := by rw [hc]; exact str_ext (by simp [strOfNums])
  have r1 := fun (W : World) (b : Nat) (h : W.cell? ⟨b, 0, none⟩ = some (.int .u8 x)) => chconv1 h
  rw [hs1] at r1
  have hmk : ∀ w : World, (Instr.makeSlice 47 (.int .i64 61) (.int .i64 61)).run Tryd.prog w = .ok (.slice (some ⟨w.heap.size, 0, none⟩) 61 61) (w.alloc (.cells (madeCells #[.int .u8 0] 61) 5)) := fun w => Ch.nul_make 61 (by omega) w
  obtain ⟨v1, v2, v3, v4⟩ := Kl.val_c124 c (by omega) (by omega)
  obtain ⟨v5, v6, v7, v8⟩ := Kl.val_rest
  have H0 := Lib.hid (hK w (Below.refl _ _))
  have HC := Lib.hid hC
  have HL : Hid (∀ l : List UInt8, l.length ≤ 61 → l.length ≤ maxLen) := Lib.hid (fun l h => by unfold maxLen; omega)
  have d0 : decide (33 ≤ x) = true := decide_eq_true (by omega)
  have d1 : decide (x ≤ 126) = true := decide_eq_true (by omega)
  have d2 : decide (x < 128) = true := decide_eq_true (by omega)
  have d3 : decide (32 ≤ x) = true := decide_eq_true (by omega)
  have d4 : decide (x < 127) = true := decide_eq_true (by omega)
  have e92 : (x != 92) = true := chbne (by omega)
  have e59 : (x != 59) = true := chbne (by omega)
  have e44 : (x != 44) = true := chbne (by omega)
  have e124 : (x != 124) = false := by simp; omega
  have V1 := Lib.hid v1
  have V2 := Lib.hid v2
  have V3 := Lib.hid v3
  have V4 := Lib.hid v4
  have V5 := Lib.hid v5
  have V6 := Lib.hid v6
  have V7 := Lib.hid v7
  have V8 := Lib.hid v8
  clear v1 v2 v3 v4 v5 v6 v7 v8 hs1 hc hC hK hx hx2
  go_enter Tryd.func5, Tryd.ntmps5
  go_wp2_with fail
  refine H0.out.mono ?_; rintro e w1 ⟨rfl, b1⟩
  have K1 := Lib.hid b1
  clear b1 H0
  go_upto_region 5 with fail
  have ka := kp_alloc (Below.refl w1.heap.size w1) (.cells #[.int .u8 x] 5)
  have K2 := Lib.hid (trans9 K1.out ka)
  generalize w1.alloc (.cells #[.int .u8 x] 5) = w2 at *
  clear ka r1
  have hcv := Ch.nul_text (Ch.nul_made w2 61 5)
  go_upto_region 6 with fail
  have ka := kp_alloc (Below.refl w2.heap.size w2) (.cells (madeCells #[.int .u8 0] 61) 5)
  have K3 := Lib.hid (trans9 K2.out ka)
  generalize w2.alloc (.cells (madeCells #[.int .u8 0] 61) 5) = w3 at *
  clear ka hcv hmk K1 K2
  have c3 := HC.out.val 1 [c] w3 K3.out (HL.out _ (by first | decide | simp))
  rw [V1.out] at c3
  have C3 := Lib.hid c3
  clear c3
  go_wp2_with fail
  refine C3.out.mono ?_; rintro e w4 ⟨rfl, b4⟩
  have K4 := Lib.hid (trans9 K3.out b4)
  clear C3 K3 b4
  have c4 := HC.out.val 2 [c] w4 K4.out (HL.out _ (by first | decide | simp))
  rw [V2.out] at c4
  have C4 := Lib.hid c4
  clear c4
  go_wp2_with fail
  refine C4.out.mono ?_; rintro e w5 ⟨rfl, b5⟩
  have K5 := Lib.hid (trans9 K4.out b5)
  clear C4 K4 b5
  have c5 := HC.out.val 3 [c] w5 K5.out (HL.out _ (by first | decide | simp))
  rw [V3.out] at c5
  have C5 := Lib.hid c5
  clear c5
  go_wp2_with fail
  refine C5.out.mono ?_; rintro e w6 ⟨rfl, b6⟩
  have K6 := Lib.hid (trans9 K5.out b6)
  clear C5 K5 b6
  have c6 := HC.out.val 4 [c] w6 K6.out (HL.out _ (by first | decide | simp))
  rw [V4.out] at c6
  have C6 := Lib.hid c6
  clear c6
  go_wp2_with fail
  refine C6.out.mono ?_; rintro e w7 ⟨rfl, b7⟩
  have K7 := Lib.hid (trans9 K6.out b7)
  clear C6 K6 b7
  have c7 := HC.out.val 1 (Ch.nul 61) w7 K7.out (HL.out _ (by first | decide | simp))
  rw [V5.out] at c7
  have C7 := Lib.hid c7
  clear c7
  go_wp2_with fail
  refine C7.out.mono ?_; rintro e w8 ⟨rfl, b8⟩
  have K8 := Lib.hid (trans9 K7.out b8)
  clear C7 K7 b8
  have c8 := HC.out.val 0 [97] w8 K8.out (HL.out _ (by first | decide | simp))
  rw [V6.out] at c8
  have C8 := Lib.hid c8
  clear c8
  go_wp2_with fail
  refine C8.out.mono ?_; rintro e w9 ⟨rfl, b9⟩
  have K9 := Lib.hid (trans9 K8.out b9)
  clear C8 K8 b9
  have c9 := HC.out.val 2 [195, 169] w9 K9.out (HL.out _ (by first | decide | simp))
  rw [V7.out] at c9
  have C9 := Lib.hid c9
  clear c9
  go_wp2_with fail
  refine C9.out.mono ?_; rintro e w10 ⟨rfl, b10⟩
  have K10 := Lib.hid (trans9 K9.out b10)
  clear C9 K9 b10
  have c10 := HC.out.val 3 [195, 169] w10 K10.out (HL.out _ (by first | decide | simp))
  rw [V8.out] at c10
  have C10 := Lib.hid c10
  clear c10
  go_wp2_with fail
  refine C10.out.mono ?_; rintro e w11 ⟨rfl, b11⟩
  have K11 := Lib.hid (trans9 K10.out b11)
  clear C10 K10 b11
  go_wp2_with fail
  go_ret
  exact ⟨rfl, K11.out⟩
set_option maxHeartbeats 16000000 in
theorem cv_c127 (x : Int) (c : UInt8) (w : World) (hx : 127 ≤ x) (hx2 : x ≤ 127) (hc : x = (c.toNat : Int)) (hC : ClsC w) (hK : ∀ X, Below w.heap.size w X → Calls Tryd.prog 6 #[] X fun e w' => e = .returned (.bool true) ∧ Below X.heap.size X w') :
    Calls Tryd.prog 5 #[.int .u8 x] w fun e w' => e = .returned (.bool true) ∧ Below w.heap.size w w' := by
  have hs1 : strOfNums [x] = str [c] := by rw [hc]; exact str_ext (by simp [strOfNums])
  have r1 := fun (W : World) (b : Nat) (h : W.cell? ⟨b, 0, none⟩ = some (.int .u8 x)) => chconv1 h
  rw [hs1] at r1
  have hmk : ∀ w : World, (Instr.makeSlice 47 (.int .i64 61) (.int .i64 61)).run Tryd.prog w = .ok (.slice (some ⟨w.heap.size, 0, none⟩) 61 61) (w.alloc (.cells (madeCells #[.int .u8 0] 61) 5)) := fun w => Ch.nul_make 61 (by omega) w
  obtain ⟨v1, v2, v3, v4⟩ := Kl.val_c127 c (by omega) (by omega)
  obtain ⟨v5, v6, v7, v8⟩ := Kl.val_rest
  have H0 := Lib.hid (hK w (Below.refl _ _))
  have HC := Lib.hid hC
  have HL : Hid (∀ l : List UInt8, l.length ≤ 61 → l.length ≤ maxLen) := Lib.hid (fun l h => by unfold maxLen; omega)
  have d0 : decide (33 ≤ x) = true := decide_eq_true (by omega)
  have d1 : decide (x ≤ 126) = false := decide_eq_false (by omega)
  have d2 : decide (x < 128) = true := decide_eq_true (by omega)
  have d3 : decide (32 ≤ x) = true := decide_eq_true (by omega)
  have d4 : decide (x < 127) = false := decide_eq_false (by omega)
  have e92 : (x != 92) = true := chbne (by omega)
  have e59 : (x != 59) = true := chbne (by omega)
  have e44 : (x != 44) = true := chbne (by omega)
  have e124 : (x != 124) = true := chbne (by omega)
  have V1 := Lib.hid v1
  have V2 := Lib.hid v2
  have V3 := Lib.hid v3
  have V4 := Lib.hid v4
  have V5 := Lib.hid v5
  have V6 := Lib.hid v6
  have V7 := Lib.hid v7
  have V8 := Lib.hid v8
  clear v1 v2 v3 v4 v5 v6 v7 v8 hs1 hc hC hK hx hx2
  go_enter Tryd.func5, Tryd.ntmps5
  go_wp2_with fail
  refine H0.out.mono ?_; rintro e w1 ⟨rfl, b1⟩
  have K1 := Lib.hid b1
  clear b1 H0
  go_upto_region 5 with fail
  have ka := kp_alloc (Below.refl w1.heap.size w1) (.cells #[.int .u8 x] 5)
  have K2 := Lib.hid (trans9 K1.out ka)
  generalize w1.alloc (.cells #[.int .u8 x] 5) = w2 at *
  clear ka r1
  have hcv := Ch.nul_text (Ch.nul_made w2 61 5)
  go_upto_region 6 with fail
  have ka := kp_alloc (Below.refl w2.heap.size w2) (.cells (madeCells #[.int .u8 0] 61) 5)
  have K3 := Lib.hid (trans9 K2.out ka)
  generalize w2.alloc (.cells (madeCells #[.int .u8 0] 61) 5) = w3 at *
  clear ka hcv hmk K1 K2
  have c3 := HC.out.val 1 [c] w3 K3.out (HL.out _ (by first | decide | simp))
  rw [V1.out] at c3
  have C3 := Lib.hid c3
  clear c3
  go_wp2_with fail
  refine C3.out.mono ?_; rintro e w4 ⟨rfl, b4⟩
  have K4 := Lib.hid (trans9 K3.out b4)
  clear C3 K3 b4
  have c4 := HC.out.val 2 [c] w4 K4.out (HL.out _ (by first | decide | simp))
  rw [V2.out] at c4
  have C4 := Lib.hid c4
  clear c4
  go_wp2_with fail
  refine C4.out.mono ?_; rintro e w5 ⟨rfl, b5⟩
  have K5 := Lib.hid (trans9 K4.out b5)
  clear C4 K4 b5
  have c5 := HC.out.val 3 [c] w5 K5.out (HL.out _ (by first | decide | simp))
  rw [V3.out] at c5
  have C5 := Lib.hid c5
  clear c5
  go_wp2_with fail
  refine C5.out.mono ?_; rintro e w6 ⟨rfl, b6⟩
  have K6 := Lib.hid (trans9 K5.out b6)
  clear C5 K5 b6
  have c6 := HC.out.val 4 [c] w6 K6.out (HL.out _ (by first | decide | simp))
  rw [V4.out] at c6
  have C6 := Lib.hid c6
  clear c6
  go_wp2_with fail
  refine C6.out.mono ?_; rintro e w7 ⟨rfl, b7⟩
  have K7 := Lib.hid (trans9 K6.out b7)
  clear C6 K6 b7
  have c7 := HC.out.val 1 (Ch.nul 61) w7 K7.out (HL.out _ (by first | decide | simp))
  rw [V5.out] at c7
  have C7 := Lib.hid c7
  clear c7
  go_wp2_with fail
  refine C7.out.mono ?_; rintro e w8 ⟨rfl, b8⟩
  have K8 := Lib.hid (trans9 K7.out b8)
  clear C7 K7 b8
  have c8 := HC.out.val 0 [97] w8 K8.out (HL.out _ (by first | decide | simp))
  rw [V6.out] at c8
  have C8 := Lib.hid c8
  clear c8
  go_wp2_with fail
  refine C8.out.mono ?_; rintro e w9 ⟨rfl, b9⟩
  have K9 := Lib.hid (trans9 K8.out b9)
  clear C8 K8 b9
  have c9 := HC.out.val 2 [195, 169] w9 K9.out (HL.out _ (by first | decide | simp))
  rw [V7.out] at c9
  have C9 := Lib.hid c9
  clear c9
  go_wp2_with fail
  refine C9.out.mono ?_; rintro e w10 ⟨rfl, b10⟩
  have K10 := Lib.hid (trans9 K9.out b10)
  clear C9 K9 b10
  have c10 := HC.out.val 3 [195, 169] w10 K10.out (HL.out _ (by first | decide | simp))
  rw [V8.out] at c10
  have C10 := Lib.hid c10
  clear c10
  go_wp2_with fail
  refine C10.out.mono ?_; rintro e w11 ⟨rfl, b11⟩
  have K11 := Lib.hid (trans9 K10.out b11)
  clear C10 K10 b11
  go_wp2_with fail
  go_ret
  exact ⟨rfl, K11.out⟩
set_option maxHeartbeats 16000000 in
theorem cv_high (x : Int) (c : UInt8) (w : World) (hx : 128 ≤ x) (hx2 : x ≤ 255) (hc : x = (c.toNat : Int)) (hC : ClsC w) (hK : ∀ X, Below w.heap.size w X → Calls Tryd.prog 6 #[] X fun e w' => e = .returned (.bool true) ∧ Below X.heap.size X w') :
    Calls Tryd.prog 5 #[.int .u8 x] w fun e w' => e = .returned (.bool true) ∧ Below w.heap.size w w' := by
  have hs1 : strOfNums [x] = str [c] := by rw [hc]; exact str_ext (by simp [strOfNums])
  have r1 := fun (W : World) (b : Nat) (h : W.cell? ⟨b, 0, none⟩ = some (.int .u8 x)) => chconv1 h
  rw [hs1] at r1
  have hmk : ∀ w : World, (Instr.makeSlice 47 (.int .i64 61) (.int .i64 61)).run Tryd.prog w = .ok (.slice (some ⟨w.heap.size, 0, none⟩) 61 61) (w.alloc (.cells (madeCells #[.int .u8 0] 61) 5)) := fun w => Ch.nul_make 61 (by omega) w
  obtain ⟨v1, v2, v3, v4⟩ := Kl.val_high c (by omega) (by omega)
  obtain ⟨v5, v6, v7, v8⟩ := Kl.val_rest
  have H0 := Lib.hid (hK w (Below.refl _ _))
  have HC := Lib.hid hC
  have HL : Hid (∀ l : List UInt8, l.length ≤ 61 → l.length ≤ maxLen) := Lib.hid (fun l h => by unfold maxLen; omega)
  have d0 : decide (33 ≤ x) = true := decide_eq_true (by omega)
  have d1 : decide (x ≤ 126) = false := decide_eq_false (by omega)
  have d2 : decide (x < 128) = false := decide_eq_false (by omega)
  have d3 : decide (32 ≤ x) = true := decide_eq_true (by omega)
  have d4 : decide (x < 127) = false := decide_eq_false (by omega)
  have e92 : (x != 92) = true := chbne (by omega)
  have e59 : (x != 59) = true := chbne (by omega)
  have e44 : (x != 44) = true := chbne (by omega)
  have e124 : (x != 124) = true := chbne (by omega)
  have V1 := Lib.hid v1
  have V2 := Lib.hid v2
  have V3 := Lib.hid v3
  have V4 := Lib.hid v4
  have V5 := Lib.hid v5
  have V6 := Lib.hid v6
  have V7 := Lib.hid v7
  have V8 := Lib.hid v8
  clear v1 v2 v3 v4 v5 v6 v7 v8 hs1 hc hC hK hx hx2
  go_enter Tryd.func5, Tryd.ntmps5
  go_wp2_with fail
  refine H0.out.mono ?_; rintro e w1 ⟨rfl, b1⟩
  have K1 := Lib.hid b1
  clear b1 H0
  go_upto_region 5 with fail
  have ka := kp_alloc (Below.refl w1.heap.size w1) (.cells #[.int .u8 x] 5)
  have K2 := Lib.hid (trans9 K1.out ka)
  generalize w1.alloc (.cells #[.int .u8 x] 5) = w2 at *
  clear ka r1
  have hcv := Ch.nul_text (Ch.nul_made w2 61 5)
  go_upto_region 6 with fail
  have ka := kp_alloc (Below.refl w2.heap.size w2) (.cells (madeCells #[.int .u8 0] 61) 5)
  have K3 := Lib.hid (trans9 K2.out ka)
  generalize w2.alloc (.cells (madeCells #[.int .u8 0] 61) 5) = w3 at *
  clear ka hcv hmk K1 K2
  have c3 := HC.out.val 1 [c] w3 K3.out (HL.out _ (by first | decide | simp))
  rw [V1.out] at c3
  have C3 := Lib.hid c3
  clear c3
  go_wp2_with fail
  refine C3.out.mono ?_; rintro e w4 ⟨rfl, b4⟩
  have K4 := Lib.hid (trans9 K3.out b4)
  clear C3 K3 b4
  have c4 := HC.out.val 2 [c] w4 K4.out (HL.out _ (by first | decide | simp))
  rw [V2.out] at c4
  have C4 := Lib.hid c4
  clear c4
  go_wp2_with fail
  refine C4.out.mono ?_; rintro e w5 ⟨rfl, b5⟩
  have K5 := Lib.hid (trans9 K4.out b5)
  clear C4 K4 b5
  have c5 := HC.out.val 3 [c] w5 K5.out (HL.out _ (by first | decide | simp))
  rw [V3.out] at c5
  have C5 := Lib.hid c5
  clear c5
  go_wp2_with fail
  refine C5.out.mono ?_; rintro e w6 ⟨rfl, b6⟩
  have K6 := Lib.hid (trans9 K5.out b6)
  clear C5 K5 b6
  have c6 := HC.out.val 4 [c] w6 K6.out (HL.out _ (by first | decide | simp))
  rw [V4.out] at c6
  have C6 := Lib.hid c6
  clear c6
  go_wp2_with fail
  refine C6.out.mono ?_; rintro e w7 ⟨rfl, b7⟩
  have K7 := Lib.hid (trans9 K6.out b7)
  clear C6 K6 b7
  have c7 := HC.out.val 1 (Ch.nul 61) w7 K7.out (HL.out _ (by first | decide | simp))
  rw [V5.out] at c7
  have C7 := Lib.hid c7
  clear c7
  go_wp2_with fail
  refine C7.out.mono ?_; rintro e w8 ⟨rfl, b8⟩
  have K8 := Lib.hid (trans9 K7.out b8)
  clear C7 K7 b8
  have c8 := HC.out.val 0 [97] w8 K8.out (HL.out _ (by first | decide | simp))
  rw [V6.out] at c8
  have C8 := Lib.hid c8
  clear c8
  go_wp2_with fail
  refine C8.out.mono ?_; rintro e w9 ⟨rfl, b9⟩
  have K9 := Lib.hid (trans9 K8.out b9)
  clear C8 K8 b9
  have c9 := HC.out.val 2 [195, 169] w9 K9.out (HL.out _ (by first | decide | simp))
  rw [V7.out] at c9
  have C9 := Lib.hid c9
  clear c9
  go_wp2_with fail
  refine C9.out.mono ?_; rintro e w10 ⟨rfl, b10⟩
  have K10 := Lib.hid (trans9 K9.out b10)
  clear C9 K9 b10
  have c10 := HC.out.val 3 [195, 169] w10 K10.out (HL.out _ (by first | decide | simp))
  rw [V8.out] at c10
  have C10 := Lib.hid c10
  clear c10
  go_wp2_with fail
  refine C10.out.mono ?_; rintro e w11 ⟨rfl, b11⟩
  have K11 := Lib.hid (trans9 K10.out b11)
  clear C10 K10 b11
  go_wp2_with fail
  go_ret
  exact ⟨rfl, K11.out⟩
set_option maxHeartbeats 16000000 in
theorem cv_mid (x : Int) (c : UInt8) (w : World) (hx : 33 ≤ x) (hx2 : x ≤ 126) (h44 : x ≠ 44) (h59 : x ≠ 59) (h92 : x ≠ 92) (h124 : x ≠ 124) (hc : x = (c.toNat : Int)) (hC : ClsC w) (hK : ∀ X, Below w.heap.size w X → Calls Tryd.prog 6 #[] X fun e w' => e = .returned (.bool true) ∧ Below X.heap.size X w') :
    Calls Tryd.prog 5 #[.int .u8 x] w fun e w' => e = .returned (.bool true) ∧ Below w.heap.size w w' := by
  have hs1 : strOfNums [x] = str [c] := by rw [hc]; exact str_ext (by simp [strOfNums])
  have r1 := fun (W : World) (b : Nat) (h : W.cell? ⟨b, 0, none⟩ = some (.int .u8 x)) => chconv1 h
  rw [hs1] at r1
  have hmk : ∀ w : World, (Instr.makeSlice 47 (.int .i64 61) (.int .i64 61)).run Tryd.prog w = .ok (.slice (some ⟨w.heap.size, 0, none⟩) 61 61) (w.alloc (.cells (madeCells #[.int .u8 0] 61) 5)) := fun w => Ch.nul_make 61 (by omega) w
  obtain ⟨v1, v2, v3, v4⟩ := Kl.val_mid c (by omega) (by omega) (by omega) (by omega) (by omega) (by omega)
  obtain ⟨v5, v6, v7, v8⟩ := Kl.val_rest
  have H0 := Lib.hid (hK w (Below.refl _ _))
  have HC := Lib.hid hC
  have HL : Hid (∀ l : List UInt8, l.length ≤ 61 → l.length ≤ maxLen) := Lib.hid (fun l h => by unfold maxLen; omega)
  have d0 : decide (33 ≤ x) = true := decide_eq_true (by omega)
  have d1 : decide (x ≤ 126) = true := decide_eq_true (by omega)
  have d2 : decide (x < 128) = true := decide_eq_true (by omega)
  have d3 : decide (32 ≤ x) = true := decide_eq_true (by omega)
  have d4 : decide (x < 127) = true := decide_eq_true (by omega)
  have e92 : (x != 92) = true := chbne (by omega)
  have e59 : (x != 59) = true := chbne (by omega)
  have e44 : (x != 44) = true := chbne (by omega)
  have e124 : (x != 124) = true := chbne (by omega)
  have V1 := Lib.hid v1
  have V2 := Lib.hid v2
  have V3 := Lib.hid v3
  have V4 := Lib.hid v4
  have V5 := Lib.hid v5
  have V6 := Lib.hid v6
  have V7 := Lib.hid v7
  have V8 := Lib.hid v8
  clear v1 v2 v3 v4 v5 v6 v7 v8 hs1 hc hC hK hx hx2 h44 h59 h92 h124
  go_enter Tryd.func5, Tryd.ntmps5
  go_wp2_with fail
  refine H0.out.mono ?_; rintro e w1 ⟨rfl, b1⟩
  have K1 := Lib.hid b1
  clear b1 H0
  go_upto_region 5 with fail
  have ka := kp_alloc (Below.refl w1.heap.size w1) (.cells #[.int .u8 x] 5)
  have K2 := Lib.hid (trans9 K1.out ka)
  generalize w1.alloc (.cells #[.int .u8 x] 5) = w2 at *
  clear ka r1
  have hcv := Ch.nul_text (Ch.nul_made w2 61 5)
  go_upto_region 6 with fail
  have ka := kp_alloc (Below.refl w2.heap.size w2) (.cells (madeCells #[.int .u8 0] 61) 5)
  have K3 := Lib.hid (trans9 K2.out ka)
  generalize w2.alloc (.cells (madeCells #[.int .u8 0] 61) 5) = w3 at *
  clear ka hcv hmk K1 K2
  have c3 := HC.out.val 1 [c] w3 K3.out (HL.out _ (by first | decide | simp))
  rw [V1.out] at c3
  have C3 := Lib.hid c3
  clear c3
  go_wp2_with fail
  refine C3.out.mono ?_; rintro e w4 ⟨rfl, b4⟩
  have K4 := Lib.hid (trans9 K3.out b4)
  clear C3 K3 b4
  have c4 := HC.out.val 2 [c] w4 K4.out (HL.out _ (by first | decide | simp))
  rw [V2.out] at c4
  have C4 := Lib.hid c4
  clear c4
  go_wp2_with fail
  refine C4.out.mono ?_; rintro e w5 ⟨rfl, b5⟩
  have K5 := Lib.hid (trans9 K4.out b5)
  clear C4 K4 b5
  have c5 := HC.out.val 3 [c] w5 K5.out (HL.out _ (by first | decide | simp))
  rw [V3.out] at c5
  have C5 := Lib.hid c5
  clear c5
  go_wp2_with fail
  refine C5.out.mono ?_; rintro e w6 ⟨rfl, b6⟩
  have K6 := Lib.hid (trans9 K5.out b6)
  clear C5 K5 b6
  have c6 := HC.out.val 4 [c] w6 K6.out (HL.out _ (by first | decide | simp))
  rw [V4.out] at c6
  have C6 := Lib.hid c6
  clear c6
  go_wp2_with fail
  refine C6.out.mono ?_; rintro e w7 ⟨rfl, b7⟩
  have K7 := Lib.hid (trans9 K6.out b7)
  clear C6 K6 b7
  have c7 := HC.out.val 1 (Ch.nul 61) w7 K7.out (HL.out _ (by first | decide | simp))
  rw [V5.out] at c7
  have C7 := Lib.hid c7
  clear c7
  go_wp2_with fail
  refine C7.out.mono ?_; rintro e w8 ⟨rfl, b8⟩
  have K8 := Lib.hid (trans9 K7.out b8)
  clear C7 K7 b8
  have c8 := HC.out.val 0 [97] w8 K8.out (HL.out _ (by first | decide | simp))
  rw [V6.out] at c8
  have C8 := Lib.hid c8
  clear c8
  go_wp2_with fail
  refine C8.out.mono ?_; rintro e w9 ⟨rfl, b9⟩
  have K9 := Lib.hid (trans9 K8.out b9)
  clear C8 K8 b9
  have c9 := HC.out.val 2 [195, 169] w9 K9.out (HL.out _ (by first | decide | simp))
  rw [V7.out] at c9
  have C9 := Lib.hid c9
  clear c9
  go_wp2_with fail
  refine C9.out.mono ?_; rintro e w10 ⟨rfl, b10⟩
  have K10 := Lib.hid (trans9 K9.out b10)
  clear C9 K9 b10
  have c10 := HC.out.val 3 [195, 169] w10 K10.out (HL.out _ (by first | decide | simp))
  rw [V8.out] at c10
  have C10 := Lib.hid c10
  clear c10
  go_wp2_with fail
  refine C10.out.mono ?_; rintro e w11 ⟨rfl, b11⟩
  have K11 := Lib.hid (trans9 K10.out b11)
  clear C10 K10 b11
  go_wp2_with fail
  go_ret
  exact ⟨rfl, K11.out⟩

theorem clsvalues_walk (x : Int) (w : World) (hx : 0 ≤ x) (hx2 : x ≤ 255) (hC : ClsC w) (hK : ∀ X, Below w.heap.size w X → Calls Tryd.prog 6 #[] X fun e w' => e = .returned (.bool true) ∧ Below X.heap.size X w') :
    Calls Tryd.prog 5 #[.int .u8 x] w fun e w' => e = .returned (.bool true) ∧ Below w.heap.size w w' := by
  obtain ⟨c, hc⟩ : ∃ c : UInt8, x = (c.toNat : Int) := ⟨UInt8.ofNat x.toNat, by simp; omega⟩
  by_cases a0 : x ≤ 31
  · exact cv_low x c w hx a0 hc hC hK
  by_cases a32 : x = 32
  · exact cv_c32 x c w (by omega) (by omega) hc hC hK
  by_cases a44 : x = 44
  · exact cv_c44 x c w (by omega) (by omega) hc hC hK
  by_cases a59 : x = 59
  · exact cv_c59 x c w (by omega) (by omega) hc hC hK
  by_cases a92 : x = 92
  · exact cv_c92 x c w (by omega) (by omega) hc hC hK
  by_cases a124 : x = 124
  · exact cv_c124 x c w (by omega) (by omega) hc hC hK
  by_cases a127 : x = 127
  · exact cv_c127 x c w (by omega) (by omega) hc hC hK
  by_cases a9 : 128 ≤ x
  · exact cv_high x c w a9 hx2 hc hC hK
  exact cv_mid x c w (by omega) (by omega) a44 a59 a92 a124 hc hC hK

end Go.Proofs.YtgoibhbmndpgpaaDoor
