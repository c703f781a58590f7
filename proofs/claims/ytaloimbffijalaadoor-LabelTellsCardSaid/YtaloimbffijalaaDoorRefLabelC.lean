/- The reference's Labels. -/
import Derived.Test.YtaloimbffijalaaDoorRefLabelB
set_option maxRecDepth 100000
set_option linter.unusedVariables false
set_option linter.unusedSimpArgs false
namespace Go.Proofs.YtaloimbffijalaaDoor
open Go.RowKit Go.Sort
attribute [local go_sem ↓] Go.wp_at_zero Go.wp_at_succ

set_option maxHeartbeats 8000000 in
theorem rlabels_calls (l : List Lb) (v : Value) (w : World) (hv : LbRow w v l) (hf : Fit l) :
    Calls Tryd.prog 19 #[v] w fun e w' => e = .returned (.bool (goodL l)) ∧ Below w.heap.size w w' := by
  obtain ⟨A, cap, rfl, hlc, hcm, hnil, hrow⟩ := hv
  unfold maxLen at hcm
  by_cases h8 : l.length ≤ 8
  · have d8 : decide ((8 : Int) < (l.length : Int)) = false := by simp; omega
    have HR := Lib.hid hrow
    have HF := Lib.hid hf
    clear hrow hf hnil
    have HN := Lib.hid (fun (s : List UInt8) (hs : s.length ≤ maxLen) (W : World) => rname_calls s W hs)
    have HV := Lib.hid (fun (s : List UInt8) (hs : s.length ≤ maxLen) (W : World) => rvalue_calls s W hs)
    go_enter Tryd.func19, Tryd.ntmps19
    go_wp2_with fail
    go_loopw [3] (fun v wr => ∃ k : Nat, k ≤ l.length ∧ v = .int .i64 (k : Nat) ∧ Hid (goodTo l k = true) ∧ Below w.heap.size w wr) (fun v _ => l.length - (intOf v).toNat)
    case atStart => exact ⟨0, Nat.zero_le _, rfl, rfl, Below.refl _ _⟩
    case round =>
      obtain ⟨k, hk, rfl, H, hb⟩ := hrel
      by_cases hkl : k < l.length
      · obtain ⟨b, off, rfl, hbs, hc⟩ := HR.out (by omega)
        obtain ⟨c0, c1⟩ := hc k (lbAt l k) (at_get hkl)
        have c0 := (hb.cell (p := ⟨b, off + k * 2, none⟩) hbs).trans c0
        have c1 := (hb.cell (p := ⟨b, off + k * 2 + 1, none⟩) hbs).trans c1
        obtain ⟨f0, f1⟩ := HF.out (lbAt l k) (at_mem hkl)
        have hnc := Lib.hid (HN.out _ f0)
        have hvc := Lib.hid (HV.out _ f1)
        have gn := Lib.hid (fun h => goodL_no hkl (goodAt_name (l := l) (k := k) h))
        have gv := Lib.hid (fun h => goodL_no hkl (goodAt_value (l := l) (k := k) h))
        have gz := Lib.hid (fun (h : k = 0) (h1 : nameOk (lbAt l k).1 = true) (h2 : valueOk (lbAt l k).2 = true) => show goodTo l (k + 1) = true by rw [goodTo_succ H.out]; subst h; exact goodAt_zero h1 h2)
        have gl := Lib.hid (fun (j : Nat) (h : k = j + 1) (h1 : nameOk (lbAt l k).1 = true) (h2 : valueOk (lbAt l k).2 = true) => show goodAt l k = decide (cb (lbAt l j).1 (lbAt l k).1 < 0) by subst h; exact goodAt_less h1 h2)
        have gs := Lib.hid (goodTo_succ H.out)
        have gno := Lib.hid (fun h => goodL_no (l := l) (k := k) hkl h)
        have hcp := Lib.hid (fun (j : Nat) (h : k = j + 1) => hc j (lbAt l j) (at_get (by omega)))
        generalize lbAt l k = X at *
        obtain ⟨X1, X2⟩ := X
        simp only at c0 c1 hnc hvc gn gv gz gl
        have HB := Lib.hid hb
        have hk0 : (0 : Int) ≤ (k : Int) := by omega
        have hkb : (k : Int) < (l.length : Int) := by omega
        clear hc f0 f1
        cases hN : nameOk X1
        · rw [hN] at hnc
          clear hcp gl hb
          go_wp2_with fail
          go_quiet ((first | (go_at_call 21; exact Calls.quiet_of_same ((hnc.out _).mono fun _ _ h => ⟨h.1, h.2.symm⟩)) | (go_at_call 23; exact Calls.quiet_of_same ((hvc.out _).mono fun _ _ h => ⟨h.1, h.2.symm⟩))))
          go_wp2_with fail
          go_ret
          exact ⟨by rw [gn.out hN]; rfl, below_drewN HB.out _⟩
        · rw [hN] at hnc
          cases hV : valueOk X2
          · rw [hV] at hvc
            clear hcp gl hb
            go_wp2_with fail
            go_quiet ((first | (go_at_call 21; exact Calls.quiet_of_same ((hnc.out _).mono fun _ _ h => ⟨h.1, h.2.symm⟩)) | (go_at_call 23; exact Calls.quiet_of_same ((hvc.out _).mono fun _ _ h => ⟨h.1, h.2.symm⟩))))
            go_wp2_with fail
            go_ret
            exact ⟨by rw [gv.out hV]; rfl, below_drewN HB.out _⟩
          · rw [hV] at hvc
            have hNN := Lib.hid hN
            have hVV := Lib.hid hV
            clear hN hV
            by_cases k0 : k = 0
            · have hg := Lib.hid (gz.out k0 hNN.out hVV.out)
              clear hcp gl gs gno hb
              obtain rfl := k0
              simp only [Nat.zero_mul, Nat.add_zero] at c0 c1
              rw [show ((0 : Nat) : Int) = 0 from rfl]
              go_wp2_with fail
              go_quiet ((first | (go_at_call 21; exact Calls.quiet_of_same ((hnc.out _).mono fun _ _ h => ⟨h.1, h.2.symm⟩)) | (go_at_call 23; exact Calls.quiet_of_same ((hvc.out _).mono fun _ _ h => ⟨h.1, h.2.symm⟩))))
              go_wp2_with fail
              go_roundw
              case rel => exact ⟨1, hkl, by go_num, hg.out, below_drewN HB.out _⟩
              case measure => simp [intOf]; omega
            · obtain ⟨j, hj⟩ : ∃ j, k = j + 1 := ⟨k - 1, by omega⟩
              have hgl := Lib.hid (gl.out j hj hNN.out hVV.out)
              obtain ⟨e0, e1⟩ := hcp.out j hj
              have e0 := (hb.cell (p := ⟨b, off + j * 2, none⟩) hbs).trans e0
              have hbl := bl_cb (lbAt l j).1 X1
              generalize lbAt l j = Y at *
              obtain ⟨Y1, Y2⟩ := Y
              simp only at e0 e1 hbl hgl
              have dk : decide ((0 : Int) < (k : Int)) = true := by simp; omega
              have dk2 : decide (0 < k) = true := by simp; omega
              have hkj : (k : Int) - 1 = (j : Int) := by omega
              have hw1 : IntKind.i64.wrap (j : Int) = (j : Int) := IntWalk.i64_in _ (by omega)
              have hj0 : (0 : Int) ≤ (j : Int) := by omega
              have hj1 : (j : Int) < (l.length : Int) := by omega
              have hjl : j < l.length := by omega
              clear hcp gl gz gn gv hj hb e1
              by_cases hC : cb Y1 X1 < 0
              · rw [decide_eq_true hC] at hbl hgl
                have hg := Lib.hid (show goodTo l (k + 1) = true by rw [gs.out, hgl.out])
                go_wp2_with fail
                go_quiet ((first | (go_at_call 21; exact Calls.quiet_of_same ((hnc.out _).mono fun _ _ h => ⟨h.1, h.2.symm⟩)) | (go_at_call 23; exact Calls.quiet_of_same ((hvc.out _).mono fun _ _ h => ⟨h.1, h.2.symm⟩))))
                go_wp2_with fail
                go_roundw
                case rel => exact ⟨k + 1, hkl, by go_num, hg.out, below_drewN HB.out _⟩
                case measure => simp [intOf]; omega
              · rw [decide_eq_false hC] at hbl hgl
                have hr := Lib.hid (gno.out hgl.out)
                go_wp2_with fail
                go_quiet ((first | (go_at_call 21; exact Calls.quiet_of_same ((hnc.out _).mono fun _ _ h => ⟨h.1, h.2.symm⟩)) | (go_at_call 23; exact Calls.quiet_of_same ((hvc.out _).mono fun _ _ h => ⟨h.1, h.2.symm⟩))))
                go_wp2_with fail
                go_ret
                exact ⟨by rw [hr.out]; rfl, below_drewN HB.out _⟩
      · have hr := Lib.hid (show goodL l = true by
          have h := H.out
          rw [show k = l.length by omega] at h
          exact goodL_yes h8 h)
        go_wp2
        go_ret
        exact ⟨by rw [hr.out]; rfl, hb⟩
  · have d8 : decide ((8 : Int) < (l.length : Int)) = true := by simp; omega
    have hr := Lib.hid (goodL_long (l := l) (by omega))
    go_enter Tryd.func19, Tryd.ntmps19
    go_wp2
    go_ret
    exact ⟨by rw [hr.out]; rfl, Below.refl _ _⟩

end Go.Proofs.YtaloimbffijalaaDoor
