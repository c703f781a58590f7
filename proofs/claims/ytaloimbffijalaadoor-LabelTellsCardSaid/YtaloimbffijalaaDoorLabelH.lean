/- The walks of slices.CompareFunc at labels, of package label's Compare. -/
import Derived.Test.YtaloimbffijalaaDoorLabelB
set_option maxRecDepth 100000
set_option linter.unusedVariables false
set_option linter.unusedSimpArgs false
namespace Go.Proofs.YtaloimbffijalaaDoor
open Go.RowKit Go.Sort
attribute [local go_sem ↓] Go.wp_at_zero Go.wp_at_succ

theorem at_elem {l : List Lb} {i : Nat} (h : i < l.length) : l[i] = lbAt l i := (lbAt_of h).symm
set_option maxHeartbeats 4000000 in
theorem cmpf_calls (a b : List Lb) (v u : Value) (w : World) (hv : LbRow w v a) (hu : LbRow w u b) :
    Calls Tryd.prog 28 #[v, u, .func (.func 29) #[] #[]] w fun e w' => e = .returned (.int .i64 (cmpL a b)) ∧ Below w.heap.size w w' := by
  obtain ⟨A, cap, rfl, hlc, hcm, hnil, hrow⟩ := hv
  obtain ⟨A', cap', rfl, hlc', hcm', hnil', hrow'⟩ := hu
  unfold maxLen at hcm hcm'
  have HR := Lib.hid hrow
  have HR' := Lib.hid hrow'
  clear hrow hnil hrow' hnil'
  go_enter Tryd.func28, Tryd.ntmps28
  go_wp2_with fail
  go_loopw [13] (fun v wr => ∃ k : Nat, k ≤ a.length ∧ k ≤ b.length ∧ v = .int .i64 (k : Nat) ∧ Hid (cmpL a b = cmpL (a.drop k) (b.drop k)) ∧ Below w.heap.size w wr) (fun v _ => a.length - (intOf v).toNat)
  case atStart => exact ⟨0, Nat.zero_le _, Nat.zero_le _, rfl, rfl, Below.refl _ _⟩
  case round =>
    obtain ⟨k, hka, hkb, rfl, H, hb⟩ := hrel
    by_cases h1 : k < a.length
    · obtain ⟨b1, off1, rfl, hbs, hc⟩ := HR.out (by omega)
      obtain ⟨c0, c1⟩ := hc k (lbAt a k) (at_get h1)
      have c0 := (hb.cell (p := ⟨b1, off1 + k * 2, none⟩) hbs).trans c0
      have c1 := (hb.cell (p := ⟨b1, off1 + k * 2 + 1, none⟩) hbs).trans c1
      clear hc
      by_cases h2 : k < b.length
      · have dge : decide ((b.length : Int) ≤ (k : Int)) = false := by simp; omega
        have dge2 : decide (b.length ≤ k) = false := by simp; omega
        obtain ⟨b2, off2, rfl, hbs2, hc2⟩ := HR'.out (by omega)
        obtain ⟨e0, e1⟩ := hc2 k (lbAt b k) (at_get h2)
        have e0 := (hb.cell (p := ⟨b2, off2 + k * 2, none⟩) hbs2).trans e0
        have e1 := (hb.cell (p := ⟨b2, off2 + k * 2 + 1, none⟩) hbs2).trans e1
        clear hc2
        have hs := cmpL_at h1 h2 H.out
        rw [at_elem h1, at_elem h2] at hs
        have HS := Lib.hid hs
        clear hs
        have hbn := Lib.hid (fun W => bynv_calls (lbAt a k) (lbAt b k) W)
        generalize lbAt a k = X at *
        generalize lbAt b k = Y at *
        obtain ⟨X1, X2⟩ := X
        obtain ⟨Y1, Y2⟩ := Y
        simp only at c0 c1 e0 e1
        have hl1 : b2 < wr.heap.size + 1 := by have := hb.size; omega
        have hl2 : b2 < wr.heap.size := by have := hb.size; omega
        have hb1 := Lib.hid (kp_alloc (kp_alloc hb (.cells #[.string (str X1), .string (str X2)] 38)) (.cells #[.string (str Y1), .string (str Y2)] 38))
        have HB := Lib.hid hb
        clear hb
        by_cases hC : lbc (X1, X2) (Y1, Y2) = 0
        · have hr := Lib.hid (HS.out.1 hC)
          rw [hC] at hbn
          clear HS hC
          go_wp2_with fail
          refine (hbn.out _).mono ?_; rintro e w1 ⟨rfl, k1⟩
          have kB := trans9 hb1.out k1
          clear k1
          go_wp2_with fail
          go_roundw
          case rel => exact ⟨k + 1, h1, h2, by go_num, hr.out, kB⟩
          case measure => simp [intOf]; omega
        · have hr := Lib.hid (HS.out.2 hC)
          have dC : (lbc (X1, X2) (Y1, Y2) == 0) = false := by simpa using hC
          generalize lbc (X1, X2) (Y1, Y2) = C at *
          clear HS
          go_wp2_with fail
          refine (hbn.out _).mono ?_; rintro e w1 ⟨rfl, k1⟩
          have kB := trans9 hb1.out k1
          clear k1
          go_wp2_with fail
          go_ret
          exact ⟨by rw [hr.out]; rfl, kB⟩
      · have dge : decide ((b.length : Int) ≤ (k : Int)) = true := by simp; omega
        have dge2 : decide (b.length ≤ k) = true := by simp; omega
        have hr := Lib.hid ((cmpL_end H.out).2.1 (by omega) h1)
        have kB := Lib.hid (kp_alloc hb (.cells #[.string (str (lbAt a k).1), .string (str (lbAt a k).2)] 38))
        generalize lbAt a k = X at *
        obtain ⟨X1, X2⟩ := X
        simp only at c0 c1
        go_wp2_with fail
        go_ret
        exact ⟨by rw [hr.out]; rfl, kB.out⟩
    · by_cases h2 : k < b.length
      · have d1 : decide ((a.length : Int) < (b.length : Int)) = true := by simp; omega
        have d2 : decide (a.length < b.length) = true := by simp; omega
        have hr := Lib.hid ((cmpL_end H.out).1 (by omega) h2)
        go_wp2
        go_ret
        exact ⟨by rw [hr.out]; rfl, hb⟩
      · have d1 : decide ((a.length : Int) < (b.length : Int)) = false := by simp; omega
        have d2 : decide (a.length < b.length) = false := by simp; omega
        have hr := Lib.hid ((cmpL_end H.out).2.2 (by omega) (by omega))
        go_wp2
        go_ret
        exact ⟨by rw [hr.out]; rfl, hb⟩
set_option maxHeartbeats 1000000 in
theorem compare_calls (a b : List Lb) (v u : Value) (w : World) (hv : LbRow w v a) (hu : LbRow w u b) :
    Calls Tryd.prog 16 #[v, u] w fun e w' => e = .returned (.int .i64 (cmpL a b)) ∧ Below w.heap.size w w' := by
  have hi := Lib.hid (cmpf_calls a b v u w hv hu)
  clear hv hu
  go_enter Tryd.func16, Tryd.ntmps16
  go_wp2_with fail
  refine hi.out.mono ?_
  rintro e w1 ⟨rfl, b1⟩
  go_wp2
  go_ret
  exact ⟨rfl, b1⟩

end Go.Proofs.YtaloimbffijalaaDoor
