/- The walk of package label's Good. -/
import Derived.Test.YtjeefgamkoeiaaaGreatDoorLabelW
set_option maxRecDepth 100000
set_option linter.unusedVariables false
set_option linter.unusedSimpArgs false
namespace Go.Proofs.YtjeefgamkoeiaaaGreatDoor
open Go.RowKit Go.Sort
attribute [local go_sem ↓] Go.wp_at_zero Go.wp_at_succ

theorem goodAt_name {l : List Lb} {k : Nat} (h : nameOk (lbAt l k).1 = false) : goodAt l k = false := by unfold goodAt; rw [h]; rfl
theorem goodAt_value {l : List Lb} {k : Nat} (h : valueOk (lbAt l k).2 = false) : goodAt l k = false := by unfold goodAt; rw [h]; simp
theorem goodAt_zero {l : List Lb} (h : nameOk (lbAt l 0).1 = true) (h2 : valueOk (lbAt l 0).2 = true) : goodAt l 0 = true := by unfold goodAt; rw [h, h2]; rfl
theorem goodAt_less {l : List Lb} {k : Nat} (h : nameOk (lbAt l (k + 1)).1 = true) (h2 : valueOk (lbAt l (k + 1)).2 = true) : goodAt l (k + 1) = decide (cb (lbAt l k).1 (lbAt l (k + 1)).1 < 0) := by
  unfold goodAt; rw [h, h2]; simp
set_option maxHeartbeats 4000000 in
theorem lgood_calls (l : List Lb) (v : Value) (w : World) (hv : LbRow w v l) (hf : Fit l) (hT : ShapesIn w) :
    Calls Tryz.prog 99 #[v] w fun e w' => e = .returned (.bool (goodL l)) ∧ Below w.heap.size w w' := by
  obtain ⟨A, cap, rfl, hlc, hcm, hnil, hrow⟩ := hv
  unfold maxLen at hcm
  by_cases h8 : l.length ≤ 8
  · have d8 : decide ((8 : Int) < (l.length : Int)) = false := by simp; omega
    have HR := Lib.hid hrow
    have HF := Lib.hid hf
    have HT := Lib.hid hT
    clear hrow hf hT hnil
    have HN := Lib.hid (fun (s : List UInt8) (hs : s.length ≤ maxLen) (W : World) (hW : Below w.heap.size w W) => name_calls s W hs (HT.out.below hW HT.out.room))
    have HV := Lib.hid (fun (s : List UInt8) (hs : s.length ≤ maxLen) (W : World) (hW : Below w.heap.size w W) => value_calls s W hs (HT.out.below hW HT.out.room))
    go_enter Tryz.func99, Tryz.ntmps99
    go_wp2_with fail
    go_loopw [10] (fun v wr => ∃ k : Nat, k ≤ l.length ∧ v = .int .i64 (k : Nat) ∧ Hid (goodTo l k = true) ∧ Below w.heap.size w wr) (fun v _ => l.length - (intOf v).toNat)
    case atStart => exact ⟨0, Nat.zero_le _, rfl, rfl, Below.refl _ _⟩
    case round =>
      obtain ⟨k, hk, rfl, H, hb⟩ := hrel
      by_cases hkl : k < l.length
      · obtain ⟨b, off, rfl, hbs, hc⟩ := HR.out (by omega)
        obtain ⟨c0, c1⟩ := hc k (lbAt l k) (at_get hkl)
        have c0 := (hb.cell (p := ⟨b, off + k * 2, none⟩) hbs).trans c0
        have c1 := (hb.cell (p := ⟨b, off + k * 2 + 1, none⟩) hbs).trans c1
        obtain ⟨f0, f1⟩ := HF.out (lbAt l k) (at_mem hkl)
        have hnc := Lib.hid (HN.out _ f0)
        have hvc := Lib.hid (HV.out _ f1)
        have gn := Lib.hid (fun h => goodL_no hkl (goodAt_name (l := l) (k := k) h))
        have gv := Lib.hid (fun h => goodL_no hkl (goodAt_value (l := l) (k := k) h))
        have gz := Lib.hid (fun (h : k = 0) (h1 : nameOk (lbAt l k).1 = true) (h2 : valueOk (lbAt l k).2 = true) => show goodTo l (k + 1) = true by rw [goodTo_succ H.out]; subst h; exact goodAt_zero h1 h2)
        have gl := Lib.hid (fun (j : Nat) (h : k = j + 1) (h1 : nameOk (lbAt l k).1 = true) (h2 : valueOk (lbAt l k).2 = true) => show goodAt l k = decide (cb (lbAt l j).1 (lbAt l k).1 < 0) by subst h; exact goodAt_less h1 h2)
        have gs := Lib.hid (goodTo_succ H.out)
        have gno := Lib.hid (fun h => goodL_no (l := l) (k := k) hkl h)
        have hcp := Lib.hid (fun (j : Nat) (h : k = j + 1) => hc j (lbAt l j) (at_get (by omega)))
        generalize lbAt l k = X at *
        obtain ⟨X1, X2⟩ := X
        simp only at c0 c1 hnc hvc gn gv gz gl
        have hb1 := Lib.hid (kp_alloc hb (.cells #[.string (str X1), .string (str X2)] 62))
        have HB := Lib.hid hb
        have hzz : w.heap.size ≤ wr.heap.size := hb.size
        clear hc hb f0 f1
        cases hN : nameOk X1
        · rw [hN] at hnc
          clear hcp gl
          go_wp2_with fail
          refine (hnc.out _ hb1.out).mono ?_; rintro e w1 ⟨rfl, b1⟩
          go_wp2
          go_ret
          exact ⟨by rw [gn.out hN]; rfl, trans9 hb1.out b1⟩
        · rw [hN] at hnc
          cases hV : valueOk X2
          · rw [hV] at hvc
            clear hcp gl
            go_wp2_with fail
            refine (hnc.out _ hb1.out).mono ?_; rintro e w1 ⟨rfl, b1⟩
            obtain ⟨hcell, hfr⟩ := bcell b1
            go_wp2_with fail
            refine (hvc.out _ (trans9 hb1.out b1)).mono ?_; rintro e w2 ⟨rfl, b2⟩
            go_wp2
            go_ret
            exact ⟨by rw [gv.out hV]; rfl, trans9 (trans9 hb1.out b1) b2⟩
          · rw [hV] at hvc
            have hNN := Lib.hid hN
            have hVV := Lib.hid hV
            clear hN hV
            by_cases k0 : k = 0
            · have hg := Lib.hid (gz.out k0 hNN.out hVV.out)
              have dk : decide ((0 : Int) < (k : Int)) = false := by simp; omega
              have dk2 : decide (0 < k) = false := by simp; omega
              clear hcp gl dk dk2 gs gno
              obtain rfl := k0
              simp only [Nat.zero_mul, Nat.add_zero] at c0 c1
              rw [show ((0 : Nat) : Int) = 0 from rfl]
              go_wp2_with fail
              refine (hnc.out _ hb1.out).mono ?_; rintro e w1 ⟨rfl, b1⟩
              obtain ⟨hcell, hfr⟩ := bcell b1
              go_wp2_with fail
              refine (hvc.out _ (trans9 hb1.out b1)).mono ?_; rintro e w2 ⟨rfl, b2⟩
              have kB := trans9 (trans9 hb1.out b1) b2
              clear hcell hfr b1 b2
              go_wp2_with fail
              go_quiet (fail)
              go_wp2_with fail
              go_roundw
              case rel => exact ⟨1, hkl, by go_num, hg.out, by first | exact kB | exact below_drewN kB _⟩
              case measure => simp [intOf]; omega
            · obtain ⟨j, hj⟩ : ∃ j, k = j + 1 := ⟨k - 1, by omega⟩
              have hgl := Lib.hid (gl.out j hj hNN.out hVV.out)
              obtain ⟨e0, e1⟩ := hcp.out j hj
              have hbn := Lib.hid (fun W => byname_calls (lbAt l j) (X1, X2) W)
              generalize lbAt l j = Y at *
              obtain ⟨Y1, Y2⟩ := Y
              simp only at e0 e1 hbn hgl
              generalize cb Y1 X1 = C at *
              have dk : decide ((0 : Int) < (k : Int)) = true := by simp; omega
              have dk2 : decide (0 < k) = true := by simp; omega
              have hkj : (k : Int) - 1 = (j : Int) := by omega
              have hw1 : IntKind.i64.wrap (j : Int) = (j : Int) := IntWalk.i64_in _ (by omega)
              have hj0 : (0 : Int) ≤ (j : Int) := by omega
              have hj1 : (j : Int) < (l.length : Int) := by omega
              have hjl : j < l.length := by omega
              have hl0 : wr.heap.size < wr.heap.size + 1 := by omega
              clear hcp gl gz gn gv hj
              go_wp2_with fail
              refine (hnc.out _ hb1.out).mono ?_; rintro e w1 ⟨rfl, b1⟩
              obtain ⟨hcell, hfr⟩ := bcell b1
              go_wp2_with fail
              refine (hvc.out _ (trans9 hb1.out b1)).mono ?_; rintro e w2 ⟨rfl, b2⟩
              have kB := trans9 (trans9 hb1.out b1) b2
              have s1 := b1.size
              simp only [World.size_alloc] at s1
              have s2 := b2.size
              have hz2 : wr.heap.size < w2.heap.size := by omega
              have g0 : w2.cell? ⟨wr.heap.size, 0, none⟩ = some (.string (str X1)) := by rw [b2.cell (by show wr.heap.size < w1.heap.size; omega), hcell _ _ (by simp)]; simp
              have g1 : w2.cell? ⟨wr.heap.size, 1, none⟩ = some (.string (str X2)) := by rw [b2.cell (by show wr.heap.size < w1.heap.size; omega), hcell _ _ (by simp)]; simp
              have p0 := (kB.cell (p := ⟨b, off + j * 2, none⟩) hbs).trans e0
              have p1 := (kB.cell (p := ⟨b, off + j * 2 + 1, none⟩) hbs).trans e1
              have hbz : b < w2.heap.size := Nat.lt_of_lt_of_le hbs kB.size
              clear hcell hfr b1 b2 e0 e1 c0 c1
              have r0 : ∀ z, Below w2.heap.size w2 z → z.cell? ⟨wr.heap.size, 0, none⟩ = some (.string (str X1)) := fun z hz => (hz.cell hz2).trans g0
              have r1 : ∀ z, Below w2.heap.size w2 z → z.cell? ⟨wr.heap.size, 1, none⟩ = some (.string (str X2)) := fun z hz => (hz.cell hz2).trans g1
              have r2 : ∀ z, Below w2.heap.size w2 z → z.cell? ⟨b, off + j * 2, none⟩ = some (.string (str Y1)) := fun z hz => (hz.cell hbz).trans p0
              have r3 : ∀ z, Below w2.heap.size w2 z → z.cell? ⟨b, off + j * 2 + 1, none⟩ = some (.string (str Y2)) := fun z hz => (hz.cell hbz).trans p1
              have KB := Lib.hid kB
              clear g0 g1 p0 p1 hbz hz2 kB
              by_cases hC : C < 0
              · have dC : decide ((0 : Int) ≤ C) = false := by simp; omega
                have hg := Lib.hid (show goodTo l (k + 1) = true by rw [gs.out, hgl.out]; exact decide_eq_true hC)
                go_wp2_with fail
                go_region_held3 (fun z => Below w2.heap.size w2 z)
                  (((repeat' first | assumption | exact Below.refl _ _ | exact Nat.le_refl _ | apply kp_alloc | apply kp_set | apply Below.drew | omega); done))
                  ((first
                    | (go_at_call 129; refine (hbn.out _).mono ?_; rintro e w3 ⟨rfl, b3⟩; have k3 : Below w2.heap.size w2 w3 := (by refine trans9 ?_ b3; (repeat' first | assumption | exact Below.refl _ _ | exact Nat.le_refl _ | apply kp_alloc | apply kp_set | apply Below.drew | omega)))))
                all_goals
                  go_wp2_with fail
                  go_roundw
                  case rel => exact ⟨k + 1, hkl, by go_num, hg.out, trans9 KB.out k3⟩
                  case measure => simp [intOf]; omega
              · have dC : decide ((0 : Int) ≤ C) = true := by simp; omega
                have hr := Lib.hid (gno.out (by rw [hgl.out]; exact decide_eq_false hC))
                go_wp2_with fail
                go_region_held3 (fun z => Below w2.heap.size w2 z)
                  (((repeat' first | assumption | exact Below.refl _ _ | exact Nat.le_refl _ | apply kp_alloc | apply kp_set | apply Below.drew | omega); done))
                  ((first
                    | (go_at_call 129; refine (hbn.out _).mono ?_; rintro e w3 ⟨rfl, b3⟩; have k3 : Below w2.heap.size w2 w3 := (by refine trans9 ?_ b3; (repeat' first | assumption | exact Below.refl _ _ | exact Nat.le_refl _ | apply kp_alloc | apply kp_set | apply Below.drew | omega)))))
                all_goals
                  go_wp2_with fail
                  go_ret
                  exact ⟨by rw [hr.out]; rfl, trans9 KB.out k3⟩
      · have hr := Lib.hid (show goodL l = true by
          have h := H.out
          rw [show k = l.length by omega] at h
          exact goodL_yes h8 h)
        go_wp2
        go_ret
        exact ⟨by rw [hr.out]; rfl, hb⟩
  · have d8 : decide ((8 : Int) < (l.length : Int)) = true := by simp; omega
    have hr := Lib.hid (goodL_long (l := l) (by omega))
    go_enter Tryz.func99, Tryz.ntmps99
    go_wp2
    go_ret
    exact ⟨by rw [hr.out]; rfl, Below.refl _ _⟩

end Go.Proofs.YtjeefgamkoeiaaaGreatDoor
