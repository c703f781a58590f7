/- The texts LabelC, PointD, FamG, one behind the other. -/
import Derived.Test.YtgoibhbmndpgpaaGreatDoorUlW
import Derived.Test.YtgoibhbmndpgpaaGreatDoorPointW
import Derived.Test.YtgoibhbmndpgpaaGreatDoorFamY
import Derived.Test.YtgoibhbmndpgpaaGreatDoorFamX

/- The walk of package label's Good. -/
set_option maxRecDepth 100000
set_option linter.unusedVariables false
set_option linter.unusedSimpArgs false
namespace Go.Proofs.YtgoibhbmndpgpaaGreatDoor
open Go.RowKit Go.Sort
attribute [local go_sem ↓] Go.wp_at_zero Go.wp_at_succ

theorem goodAt_name {l : List Lb} {k : Nat} (h : nameOk (lbAt l k).1 = false) : goodAt l k = false := by unfold goodAt; rw [h]; rfl
theorem goodAt_value {l : List Lb} {k : Nat} (h : valueOk (lbAt l k).2 = false) : goodAt l k = false := by unfold goodAt; rw [h]; simp
theorem goodAt_zero {l : List Lb} (h : nameOk (lbAt l 0).1 = true) (h2 : valueOk (lbAt l 0).2 = true) : goodAt l 0 = true := by unfold goodAt; rw [h, h2]; rfl
theorem goodAt_less {l : List Lb} {k : Nat} (h : nameOk (lbAt l (k + 1)).1 = true) (h2 : valueOk (lbAt l (k + 1)).2 = true) : goodAt l (k + 1) = decide (cb (lbAt l k).1 (lbAt l (k + 1)).1 < 0) := by
  unfold goodAt; rw [h, h2]; simp
set_option maxHeartbeats 4000000 in
theorem lgood_calls (l : List Lb) (v : Value) (w : World) (hv : LbRow w v l) (hf : Fit l) (hT : ShapesIn w) :
    Calls Tryz.prog 106 #[v] w fun e w' => e = .returned (.bool (goodL l)) ∧ Below w.heap.size w w' := by
  obtain ⟨A, cap, rfl, hlc, hcm, hnil, hrow⟩ := hv
  unfold maxLen at hcm
  by_cases h8 : l.length ≤ 8
  · have d8 : decide ((8 : Int) < (l.length : Int)) = false := by simp; omega
    have HR := Lib.hid hrow
    have HF := Lib.hid hf
    have HT := Lib.hid hT
    clear hrow hf hT hnil
    have HN := Lib.hid (fun (s : List UInt8) (hs : s.length ≤ maxLen) (W : World) (hW : Below w.heap.size w W) => name_calls s W hs (HT.out.below hW HT.out.room))
    have HV := Lib.hid (fun (s : List UInt8) (hs : s.length ≤ maxLen) (W : World) (hW : Below w.heap.size w W) => value_calls s W hs (HT.out.below hW HT.out.room))
    go_enter Tryz.func106, Tryz.ntmps106
    go_wp2_with fail
    go_loopw [10] (fun v wr => ∃ k : Nat, k ≤ l.length ∧ v = .int .i64 (k : Nat) ∧ Hid (goodTo l k = true) ∧ Below w.heap.size w wr) (fun v _ => l.length - (intOf v).toNat)
    case atStart => exact ⟨0, Nat.zero_le _, rfl, rfl, Below.refl _ _⟩
    case round =>
      obtain ⟨k, hk, rfl, H, hb⟩ := hrel
      by_cases hkl : k < l.length
      · obtain ⟨b, off, rfl, hbs, hc⟩ := HR.out (by omega)
        obtain ⟨c0, c1⟩ := hc k (lbAt l k) (at_get hkl)
        have c0 := (hb.cell (p := ⟨b, off + k * 2, none⟩) hbs).trans c0
        have c1 := (hb.cell (p := ⟨b, off + k * 2 + 1, none⟩) hbs).trans c1
        obtain ⟨f0, f1⟩ := HF.out (lbAt l k) (at_mem hkl)
        have hnc := Lib.hid (HN.out _ f0)
        have hvc := Lib.hid (HV.out _ f1)
        have gn := Lib.hid (fun h => goodL_no hkl (goodAt_name (l := l) (k := k) h))
        have gv := Lib.hid (fun h => goodL_no hkl (goodAt_value (l := l) (k := k) h))
        have gz := Lib.hid (fun (h : k = 0) (h1 : nameOk (lbAt l k).1 = true) (h2 : valueOk (lbAt l k).2 = true) => show goodTo l (k + 1) = true by rw [goodTo_succ H.out]; subst h; exact goodAt_zero h1 h2)
        have gl := Lib.hid (fun (j : Nat) (h : k = j + 1) (h1 : nameOk (lbAt l k).1 = true) (h2 : valueOk (lbAt l k).2 = true) => show goodAt l k = decide (cb (lbAt l j).1 (lbAt l k).1 < 0) by subst h; exact goodAt_less h1 h2)
        have gs := Lib.hid (goodTo_succ H.out)
        have gno := Lib.hid (fun h => goodL_no (l := l) (k := k) hkl h)
        have hcp := Lib.hid (fun (j : Nat) (h : k = j + 1) => hc j (lbAt l j) (at_get (by omega)))
        generalize lbAt l k = X at *
        obtain ⟨X1, X2⟩ := X
        simp only at c0 c1 hnc hvc gn gv gz gl
        have hb1 := Lib.hid (kp_alloc hb (.cells #[.string (str X1), .string (str X2)] 48))
        have HB := Lib.hid hb
        have hzz : w.heap.size ≤ wr.heap.size := hb.size
        clear hc hb f0 f1
        cases hN : nameOk X1
        · rw [hN] at hnc
          clear hcp gl
          go_wp2_with fail
          refine (hnc.out _ hb1.out).mono ?_; rintro e w1 ⟨rfl, b1⟩
          go_wp2
          go_ret
          exact ⟨by rw [gn.out hN]; rfl, trans9 hb1.out b1⟩
        · rw [hN] at hnc
          cases hV : valueOk X2
          · rw [hV] at hvc
            clear hcp gl
            go_wp2_with fail
            refine (hnc.out _ hb1.out).mono ?_; rintro e w1 ⟨rfl, b1⟩
            obtain ⟨hcell, hfr⟩ := bcell b1
            go_wp2_with fail
            refine (hvc.out _ (trans9 hb1.out b1)).mono ?_; rintro e w2 ⟨rfl, b2⟩
            go_wp2
            go_ret
            exact ⟨by rw [gv.out hV]; rfl, trans9 (trans9 hb1.out b1) b2⟩
          · rw [hV] at hvc
            have hNN := Lib.hid hN
            have hVV := Lib.hid hV
            clear hN hV
            by_cases k0 : k = 0
            · have hg := Lib.hid (gz.out k0 hNN.out hVV.out)
              have dk : decide ((0 : Int) < (k : Int)) = false := by simp; omega
              have dk2 : decide (0 < k) = false := by simp; omega
              clear hcp gl dk dk2 gs gno
              obtain rfl := k0
              simp only [Nat.zero_mul, Nat.add_zero] at c0 c1
              rw [show ((0 : Nat) : Int) = 0 from rfl]
              go_wp2_with fail
              refine (hnc.out _ hb1.out).mono ?_; rintro e w1 ⟨rfl, b1⟩
              obtain ⟨hcell, hfr⟩ := bcell b1
              go_wp2_with fail
              refine (hvc.out _ (trans9 hb1.out b1)).mono ?_; rintro e w2 ⟨rfl, b2⟩
              have kB := trans9 (trans9 hb1.out b1) b2
              clear hcell hfr b1 b2
              go_wp2_with fail
              go_quiet (fail)
              go_wp2_with fail
              go_roundw
              case rel => exact ⟨1, hkl, by go_num, hg.out, by first | exact kB | exact below_drewN kB _⟩
              case measure => simp [intOf]; omega
            · obtain ⟨j, hj⟩ : ∃ j, k = j + 1 := ⟨k - 1, by omega⟩
              have hgl := Lib.hid (gl.out j hj hNN.out hVV.out)
              obtain ⟨e0, e1⟩ := hcp.out j hj
              have hbn := Lib.hid (fun W => byname_calls (lbAt l j) (X1, X2) W)
              generalize lbAt l j = Y at *
              obtain ⟨Y1, Y2⟩ := Y
              simp only at e0 e1 hbn hgl
              generalize cb Y1 X1 = C at *
              have dk : decide ((0 : Int) < (k : Int)) = true := by simp; omega
              have dk2 : decide (0 < k) = true := by simp; omega
              have hkj : (k : Int) - 1 = (j : Int) := by omega
              have hw1 : IntKind.i64.wrap (j : Int) = (j : Int) := IntWalk.i64_in _ (by omega)
              have hj0 : (0 : Int) ≤ (j : Int) := by omega
              have hj1 : (j : Int) < (l.length : Int) := by omega
              have hjl : j < l.length := by omega
              have hl0 : wr.heap.size < wr.heap.size + 1 := by omega
              clear hcp gl gz gn gv hj
              go_wp2_with fail
              refine (hnc.out _ hb1.out).mono ?_; rintro e w1 ⟨rfl, b1⟩
              obtain ⟨hcell, hfr⟩ := bcell b1
              go_wp2_with fail
              refine (hvc.out _ (trans9 hb1.out b1)).mono ?_; rintro e w2 ⟨rfl, b2⟩
              have kB := trans9 (trans9 hb1.out b1) b2
              have s1 := b1.size
              simp only [World.size_alloc] at s1
              have s2 := b2.size
              have hz2 : wr.heap.size < w2.heap.size := by omega
              have g0 : w2.cell? ⟨wr.heap.size, 0, none⟩ = some (.string (str X1)) := by rw [b2.cell (by show wr.heap.size < w1.heap.size; omega), hcell _ _ (by simp)]; simp
              have g1 : w2.cell? ⟨wr.heap.size, 1, none⟩ = some (.string (str X2)) := by rw [b2.cell (by show wr.heap.size < w1.heap.size; omega), hcell _ _ (by simp)]; simp
              have p0 := (kB.cell (p := ⟨b, off + j * 2, none⟩) hbs).trans e0
              have p1 := (kB.cell (p := ⟨b, off + j * 2 + 1, none⟩) hbs).trans e1
              have hbz : b < w2.heap.size := Nat.lt_of_lt_of_le hbs kB.size
              clear hcell hfr b1 b2 e0 e1 c0 c1
              have r0 : ∀ z, Below w2.heap.size w2 z → z.cell? ⟨wr.heap.size, 0, none⟩ = some (.string (str X1)) := fun z hz => (hz.cell hz2).trans g0
              have r1 : ∀ z, Below w2.heap.size w2 z → z.cell? ⟨wr.heap.size, 1, none⟩ = some (.string (str X2)) := fun z hz => (hz.cell hz2).trans g1
              have r2 : ∀ z, Below w2.heap.size w2 z → z.cell? ⟨b, off + j * 2, none⟩ = some (.string (str Y1)) := fun z hz => (hz.cell hbz).trans p0
              have r3 : ∀ z, Below w2.heap.size w2 z → z.cell? ⟨b, off + j * 2 + 1, none⟩ = some (.string (str Y2)) := fun z hz => (hz.cell hbz).trans p1
              have KB := Lib.hid kB
              clear g0 g1 p0 p1 hbz hz2 kB
              by_cases hC : C < 0
              · have dC : decide ((0 : Int) ≤ C) = false := by simp; omega
                have hg := Lib.hid (show goodTo l (k + 1) = true by rw [gs.out, hgl.out]; exact decide_eq_true hC)
                go_wp2_with fail
                go_region_held3 (fun z => Below w2.heap.size w2 z)
                  (((repeat' first | assumption | exact Below.refl _ _ | exact Nat.le_refl _ | apply kp_alloc | apply kp_set | apply Below.drew | omega); done))
                  ((first
                    | (go_at_call 119; refine (hbn.out _).mono ?_; rintro e w3 ⟨rfl, b3⟩; have k3 : Below w2.heap.size w2 w3 := (by refine trans9 ?_ b3; (repeat' first | assumption | exact Below.refl _ _ | exact Nat.le_refl _ | apply kp_alloc | apply kp_set | apply Below.drew | omega)))))
                all_goals
                  go_wp2_with fail
                  go_roundw
                  case rel => exact ⟨k + 1, hkl, by go_num, hg.out, trans9 KB.out k3⟩
                  case measure => simp [intOf]; omega
              · have dC : decide ((0 : Int) ≤ C) = true := by simp; omega
                have hr := Lib.hid (gno.out (by rw [hgl.out]; exact decide_eq_false hC))
                go_wp2_with fail
                go_region_held3 (fun z => Below w2.heap.size w2 z)
                  (((repeat' first | assumption | exact Below.refl _ _ | exact Nat.le_refl _ | apply kp_alloc | apply kp_set | apply Below.drew | omega); done))
                  ((first
                    | (go_at_call 119; refine (hbn.out _).mono ?_; rintro e w3 ⟨rfl, b3⟩; have k3 : Below w2.heap.size w2 w3 := (by refine trans9 ?_ b3; (repeat' first | assumption | exact Below.refl _ _ | exact Nat.le_refl _ | apply kp_alloc | apply kp_set | apply Below.drew | omega)))))
                all_goals
                  go_wp2_with fail
                  go_ret
                  exact ⟨by rw [hr.out]; rfl, trans9 KB.out k3⟩
      · have hr := Lib.hid (show goodL l = true by
          have h := H.out
          rw [show k = l.length by omega] at h
          exact goodL_yes h8 h)
        go_wp2
        go_ret
        exact ⟨by rw [hr.out]; rfl, hb⟩
  · have d8 : decide ((8 : Int) < (l.length : Int)) = true := by simp; omega
    have hr := Lib.hid (goodL_long (l := l) (by omega))
    go_enter Tryz.func106, Tryz.ntmps106
    go_wp2
    go_ret
    exact ⟨by rw [hr.out]; rfl, Below.refl _ _⟩

end Go.Proofs.YtgoibhbmndpgpaaGreatDoor

/- The walk of package point's Good. -/
set_option maxRecDepth 100000
set_option linter.unusedVariables false
set_option linter.unusedSimpArgs false
namespace Go.Proofs.YtgoibhbmndpgpaaGreatDoor
open Go.RowKit Dc
attribute [local go_sem ↓] Go.wp_at_zero Go.wp_at_succ

theorem sh_below {w w' : World} (h : ShapesIn w) (hb : Below w.heap.size w w') : ShapesIn w' := h.below hb h.room
set_option maxHeartbeats 16000000 in
theorem pgood_calls (k : Int) (v : Value) (p : Pt) (w : World) (hv : LbRow w v p.l) (hp : PtIn p) (hS : ShapesIn w) (hP : Pl w) :
    Calls Tryz.prog 92 #[.int .i64 k, ptv v p] w fun e w' => e = .returned (.bool (ptOk k p)) ∧ Below w.heap.size w w' := by
  have hb0 : Below w.heap.size w (w.alloc (.cells (ptc v p) 46)) := kp_alloc (Below.refl _ _) _
  have P1 := PtAt.new w v p 46
  have hv1 := hv.below hb0
  have hS1 := sh_below hS hb0
  have hP1 := hP.below hb0
  have HRo := Lib.hid (fun W => roles_calls k W)
  have HCn := Lib.hid (fun W u h => icontains_calls (rolesL k) u p.ro W h)
  obtain ⟨A, cap, rfl, _⟩ := hv
  have HBd := Lib.hid (fun W => isbound_calls A p.l.length cap p W hp)
  have HVl := Lib.hid (fun W => isvalue_calls k A p.l.length cap p W hp)
  obtain ⟨W1, hW1⟩ : ∃ W1 : World, W1 = w.alloc (.cells (ptc (.slice A p.l.length cap) p) 46) := ⟨_, rfl⟩
  rw [← hW1] at hb0 P1 hv1 hS1 hP1
  have HLg := Lib.hid (fun X (hX : Below W1.heap.size W1 X) => lgood_calls p.l _ X (hv1.below hX) hp.fit (sh_below hS1 hX))
  have HTm := Lib.hid (fun X (hX : Below W1.heap.size W1 X) => ptime_calls A p.l.length cap p X (hP1.below hX) hp)
  have HHl := Lib.hid (fun X (hX : Below W1.heap.size W1 X) => haslab_calls _ p X (hv1.below hX))
  rw [show ptOk k p = (memI (rolesL k) p.ro && goodL p.l && infOk p && bndOk p && valOk k p && timOk p && !hasB p) from rfl]
  have hio : infOk p = (!p.inf || decide (p.ro = 1)) := rfl
  obtain ⟨L, hL⟩ : ∃ L, L = goodL p.l := ⟨_, rfl⟩
  obtain ⟨B, hB⟩ : ∃ B, B = bndOk p := ⟨_, rfl⟩
  obtain ⟨V, hV⟩ : ∃ V, V = valOk k p := ⟨_, rfl⟩
  obtain ⟨T, hT⟩ : ∃ T, T = timOk p := ⟨_, rfl⟩
  obtain ⟨H, hH⟩ : ∃ H, H = hasB p := ⟨_, rfl⟩
  rw [← hL] at HLg ⊢
  rw [← hB] at HBd ⊢
  rw [← hV] at HVl ⊢
  rw [← hT] at HTm ⊢
  rw [← hH] at HHl ⊢
  clear hL hB hV hT hH
  generalize hro : rolesL k = rl at *
  have a0 : ∀ z, Below W1.heap.size W1 z → z.cell? ⟨w.heap.size, 0, none⟩ = some (.slice A p.l.length cap) := fun z hz => (P1.below hz).c0
  have a1 : ∀ z, Below W1.heap.size W1 z → z.cell? ⟨w.heap.size, 1, none⟩ = some (.int .i64 p.ro) := fun z hz => (P1.below hz).c1
  have a2 : ∀ z, Below W1.heap.size W1 z → z.cell? ⟨w.heap.size, 2, none⟩ = some (.bool p.inf) := fun z hz => (P1.below hz).c2
  have a3 : ∀ z, Below W1.heap.size W1 z → z.cell? ⟨w.heap.size, 3, none⟩ = some (.int .i64 p.bm) := fun z hz => (P1.below hz).c3
  have a4 : ∀ z, Below W1.heap.size W1 z → z.cell? ⟨w.heap.size, 4, none⟩ = some (.int .i64 p.bs) := fun z hz => (P1.below hz).c4
  have a5 : ∀ z, Below W1.heap.size W1 z → z.cell? ⟨w.heap.size, 5, none⟩ = some (.int .i64 p.m) := fun z hz => (P1.below hz).c5
  have a6 : ∀ z, Below W1.heap.size W1 z → z.cell? ⟨w.heap.size, 6, none⟩ = some (.int .i64 p.s) := fun z hz => (P1.below hz).c6
  have a7 : ∀ z, Below W1.heap.size W1 z → z.cell? ⟨w.heap.size, 7, none⟩ = some (.bool p.td) := fun z hz => (P1.below hz).c7
  have a8 : ∀ z, Below W1.heap.size W1 z → z.cell? ⟨w.heap.size, 8, none⟩ = some (.int .i64 p.ti) := fun z hz => (P1.below hz).c8
  obtain ⟨pl, ro, inf, bm, bs, m, s, td, ti⟩ := p
  dsimp only [ptv] at *
  generalize pl.length = n at *
  obtain ⟨R, hR⟩ : ∃ R, R = memI rl ro := ⟨_, rfl⟩
  have HB := Lib.hid hb0
  rw [← hR] at HCn ⊢
  rw [hio]
  dsimp only [ptc] at hW1
  go_enter Tryz.func92, Tryz.ntmps92
  go_upto_region 1 with fail
  rw [← hW1]
  clear hR hio hb0 P1 hv1 hS1 hP1 hS hP hp hW1 hro
  cases R with
  | false =>
    refine wp_region_noPanic ?_
    refine wp_region_held_drew (S := fun z => Below W1.heap.size W1 z) (by kernel_rfl) ?_ (fun hHeld => ?_)
    · exact Below.drew (Below.refl _ _)
    refine tk9 0 (by assumption) ?_
    refine tk9 2 (by assumption) ?_
    refine tk9 3 (by assumption) ?_
    refine wpAnyH_ready (rs := [1]) (by kernel_rfl) (by simp) ?_
    refine AllReadyH.cons rfl (fun K hK => ?_) AllReadyH.nil
    try go_simp
    (go_at_call 105; refine (HRo.out _).mono ?_; rintro e w2 ⟨⟨vr, rfl, hvr⟩, b2⟩; have k2 : Below W1.heap.size W1 w2 := (by refine trans9 ?_ b2; (repeat' first | assumption | exact Below.refl _ _ | exact Nat.le_refl _ | apply kp_alloc | apply kp_set | apply Below.drew | omega)))
    refine hK.out _ _ ?_ (fun hHeld => ?_)
    · first | assumption | exact Below.drew (by assumption)
    clear hK K
    try simp only [Act.put, List.setIfInBounds_toArray, List.set_cons_zero, List.set_cons_succ]
    refine wpAnyH_ready (rs := [4]) (by kernel_rfl) (by simp) ?_
    refine AllReadyH.cons rfl (fun K hK => ?_) AllReadyH.nil
    try go_simp
    (go_at_call 32; refine (HCn.out _ _ (by first | exact hvr | exact NoRow.below hvr (by first | assumption | exact Below.drew (Below.refl _ _)))).mono ?_; rintro e w3 ⟨rfl, rfl⟩)
    refine hK.out _ _ ?_ (fun hHeld => ?_)
    · first | assumption | exact Below.drew (by assumption)
    clear hK K
    try simp only [Act.put, List.setIfInBounds_toArray, List.set_cons_zero, List.set_cons_succ]
    refine tk9 5 (by assumption) ?_
    refine tk9 6 (by assumption) ?_ (v := undef) (hy := Or.inr ⟨by rfl, rfl⟩)
    refine tk9 7 (by assumption) ?_ (v := undef) (hy := Or.inr ⟨by rfl, rfl⟩)
    refine tk9 8 (by assumption) ?_ (v := undef) (hy := Or.inr ⟨by rfl, rfl⟩)
    refine tk9 9 (by assumption) ?_
    refine tk9 10 (by assumption) ?_
    refine tk9 11 (by assumption) ?_ (v := undef) (hy := Or.inr ⟨by rfl, rfl⟩)
    refine tk9 12 (by assumption) ?_ (v := undef) (hy := Or.inr ⟨by rfl, rfl⟩)
    refine tk9 13 (by assumption) ?_ (v := undef) (hy := Or.inr ⟨by rfl, rfl⟩)
    refine tk9 14 (by assumption) ?_ (v := undef) (hy := Or.inr ⟨by rfl, rfl⟩)
    refine tk9 15 (by assumption) ?_ (v := undef) (hy := Or.inr ⟨by rfl, rfl⟩)
    refine tk9 16 (by assumption) ?_ (v := undef) (hy := Or.inr ⟨by rfl, rfl⟩)
    refine tk9 17 (by assumption) ?_ (v := undef) (hy := Or.inr ⟨by rfl, rfl⟩)
    refine tk9 18 (by assumption) ?_ (v := undef) (hy := Or.inr ⟨by rfl, rfl⟩)
    refine tk9 19 (by assumption) ?_
    refine tk9 20 (by assumption) ?_
    refine tk9 21 (by assumption) ?_ (v := undef) (hy := Or.inr ⟨by rfl, rfl⟩)
    refine tk9 22 (by assumption) ?_ (v := undef) (hy := Or.inr ⟨by rfl, rfl⟩)
    refine tk9 23 (by assumption) ?_
    refine tk9 24 (by assumption) ?_
    refine tk9 25 (by assumption) ?_ (v := undef) (hy := Or.inr ⟨by rfl, rfl⟩)
    refine tk9 26 (by assumption) ?_ (v := undef) (hy := Or.inr ⟨by rfl, rfl⟩)
    refine tk9 27 (by assumption) ?_ (v := undef) (hy := Or.inr ⟨by rfl, rfl⟩)
    refine tk9 28 (by assumption) ?_
    refine tk9 29 (by assumption) ?_
    refine tk9 30 (by assumption) ?_ (v := undef) (hy := Or.inr ⟨by rfl, rfl⟩)
    refine tk9 31 (by assumption) ?_ (v := undef) (hy := Or.inr ⟨by rfl, rfl⟩)
    refine tk9 32 (by assumption) ?_
    refine tk9 33 (by assumption) ?_
    refine tk9 34 (by assumption) ?_ (v := undef) (hy := Or.inr ⟨by rfl, rfl⟩)
    refine tk9 35 (by assumption) ?_ (v := undef) (hy := Or.inr ⟨by rfl, rfl⟩)
    refine tk9 36 (by assumption) ?_ (v := undef) (hy := Or.inr ⟨by rfl, rfl⟩)
    refine tk9 37 (by assumption) ?_
    refine tk9 38 (by assumption) ?_
    refine wpAnyH_done (by kernel_rfl) ?_ _
    refine NoPanic.normal ?_
    go_wp2_with fail
    go_ret
    refine ⟨by first | rfl | (rw [E1.out]; rfl) | (simp; done) | (cases H <;> rfl), trans9 HB.out ?_⟩
    (repeat' first | assumption | exact Below.refl _ _ | exact Nat.le_refl _ | apply kp_alloc | apply kp_set | apply Below.drew | omega)
  | true =>
  cases L with
  | false =>
    refine wp_region_noPanic ?_
    refine wp_region_held_drew (S := fun z => Below W1.heap.size W1 z) (by kernel_rfl) ?_ (fun hHeld => ?_)
    · exact Below.drew (Below.refl _ _)
    refine tk9 0 (by assumption) ?_
    refine tk9 2 (by assumption) ?_
    refine tk9 3 (by assumption) ?_
    refine wpAnyH_ready (rs := [1]) (by kernel_rfl) (by simp) ?_
    refine AllReadyH.cons rfl (fun K hK => ?_) AllReadyH.nil
    try go_simp
    (go_at_call 105; refine (HRo.out _).mono ?_; rintro e w2 ⟨⟨vr, rfl, hvr⟩, b2⟩; have k2 : Below W1.heap.size W1 w2 := (by refine trans9 ?_ b2; (repeat' first | assumption | exact Below.refl _ _ | exact Nat.le_refl _ | apply kp_alloc | apply kp_set | apply Below.drew | omega)))
    refine hK.out _ _ ?_ (fun hHeld => ?_)
    · first | assumption | exact Below.drew (by assumption)
    clear hK K
    try simp only [Act.put, List.setIfInBounds_toArray, List.set_cons_zero, List.set_cons_succ]
    refine wpAnyH_ready (rs := [4]) (by kernel_rfl) (by simp) ?_
    refine AllReadyH.cons rfl (fun K hK => ?_) AllReadyH.nil
    try go_simp
    (go_at_call 32; refine (HCn.out _ _ (by first | exact hvr | exact NoRow.below hvr (by first | assumption | exact Below.drew (Below.refl _ _)))).mono ?_; rintro e w3 ⟨rfl, rfl⟩)
    refine hK.out _ _ ?_ (fun hHeld => ?_)
    · first | assumption | exact Below.drew (by assumption)
    clear hK K
    try simp only [Act.put, List.setIfInBounds_toArray, List.set_cons_zero, List.set_cons_succ]
    refine tk9 5 (by assumption) ?_
    refine tk9 6 (by assumption) ?_
    refine tk9 7 (by assumption) ?_
    refine wpAnyH_ready (rs := [8]) (by kernel_rfl) (by simp) ?_
    refine AllReadyH.cons rfl (fun K hK => ?_) AllReadyH.nil
    try go_simp
    (go_at_call 106; refine (HLg.out _ (by first | assumption | exact Below.refl _ _ | (repeat' first | assumption | exact Below.refl _ _ | apply kp_alloc | apply Below.drew))).mono ?_; rintro e w4 ⟨rfl, b4⟩; have k4 : Below W1.heap.size W1 w4 := (by refine trans9 ?_ b4; (repeat' first | assumption | exact Below.refl _ _ | exact Nat.le_refl _ | apply kp_alloc | apply kp_set | apply Below.drew | omega)))
    refine hK.out _ _ ?_ (fun hHeld => ?_)
    · first | assumption | exact Below.drew (by assumption)
    clear hK K
    try simp only [Act.put, List.setIfInBounds_toArray, List.set_cons_zero, List.set_cons_succ]
    refine tk9 9 (by assumption) ?_
    refine tk9 10 (by assumption) ?_
    refine tk9 11 (by assumption) ?_ (v := undef) (hy := Or.inr ⟨by rfl, rfl⟩)
    refine tk9 12 (by assumption) ?_ (v := undef) (hy := Or.inr ⟨by rfl, rfl⟩)
    refine tk9 13 (by assumption) ?_ (v := undef) (hy := Or.inr ⟨by rfl, rfl⟩)
    refine tk9 14 (by assumption) ?_ (v := undef) (hy := Or.inr ⟨by rfl, rfl⟩)
    refine tk9 15 (by assumption) ?_ (v := undef) (hy := Or.inr ⟨by rfl, rfl⟩)
    refine tk9 16 (by assumption) ?_ (v := undef) (hy := Or.inr ⟨by rfl, rfl⟩)
    refine tk9 17 (by assumption) ?_ (v := undef) (hy := Or.inr ⟨by rfl, rfl⟩)
    refine tk9 18 (by assumption) ?_ (v := undef) (hy := Or.inr ⟨by rfl, rfl⟩)
    refine tk9 19 (by assumption) ?_
    refine tk9 20 (by assumption) ?_
    refine tk9 21 (by assumption) ?_ (v := undef) (hy := Or.inr ⟨by rfl, rfl⟩)
    refine tk9 22 (by assumption) ?_ (v := undef) (hy := Or.inr ⟨by rfl, rfl⟩)
    refine tk9 23 (by assumption) ?_
    refine tk9 24 (by assumption) ?_
    refine tk9 25 (by assumption) ?_ (v := undef) (hy := Or.inr ⟨by rfl, rfl⟩)
    refine tk9 26 (by assumption) ?_ (v := undef) (hy := Or.inr ⟨by rfl, rfl⟩)
    refine tk9 27 (by assumption) ?_ (v := undef) (hy := Or.inr ⟨by rfl, rfl⟩)
    refine tk9 28 (by assumption) ?_
    refine tk9 29 (by assumption) ?_
    refine tk9 30 (by assumption) ?_ (v := undef) (hy := Or.inr ⟨by rfl, rfl⟩)
    refine tk9 31 (by assumption) ?_ (v := undef) (hy := Or.inr ⟨by rfl, rfl⟩)
    refine tk9 32 (by assumption) ?_
    refine tk9 33 (by assumption) ?_
    refine tk9 34 (by assumption) ?_ (v := undef) (hy := Or.inr ⟨by rfl, rfl⟩)
    refine tk9 35 (by assumption) ?_ (v := undef) (hy := Or.inr ⟨by rfl, rfl⟩)
    refine tk9 36 (by assumption) ?_ (v := undef) (hy := Or.inr ⟨by rfl, rfl⟩)
    refine tk9 37 (by assumption) ?_
    refine tk9 38 (by assumption) ?_
    refine wpAnyH_done (by kernel_rfl) ?_ _
    refine NoPanic.normal ?_
    go_wp2_with fail
    go_ret
    refine ⟨by first | rfl | (rw [E1.out]; rfl) | (simp; done) | (cases H <;> rfl), trans9 HB.out ?_⟩
    (repeat' first | assumption | exact Below.refl _ _ | exact Nat.le_refl _ | apply kp_alloc | apply kp_set | apply Below.drew | omega)
  | true =>
  cases inf with
  | false =>
    cases B with
    | false =>
      refine wp_region_noPanic ?_
      refine wp_region_held_drew (S := fun z => Below W1.heap.size W1 z) (by kernel_rfl) ?_ (fun hHeld => ?_)
      · exact Below.drew (Below.refl _ _)
      refine tk9 0 (by assumption) ?_
      refine tk9 2 (by assumption) ?_
      refine tk9 3 (by assumption) ?_
      refine wpAnyH_ready (rs := [1]) (by kernel_rfl) (by simp) ?_
      refine AllReadyH.cons rfl (fun K hK => ?_) AllReadyH.nil
      try go_simp
      (go_at_call 105; refine (HRo.out _).mono ?_; rintro e w2 ⟨⟨vr, rfl, hvr⟩, b2⟩; have k2 : Below W1.heap.size W1 w2 := (by refine trans9 ?_ b2; (repeat' first | assumption | exact Below.refl _ _ | exact Nat.le_refl _ | apply kp_alloc | apply kp_set | apply Below.drew | omega)))
      refine hK.out _ _ ?_ (fun hHeld => ?_)
      · first | assumption | exact Below.drew (by assumption)
      clear hK K
      try simp only [Act.put, List.setIfInBounds_toArray, List.set_cons_zero, List.set_cons_succ]
      refine wpAnyH_ready (rs := [4]) (by kernel_rfl) (by simp) ?_
      refine AllReadyH.cons rfl (fun K hK => ?_) AllReadyH.nil
      try go_simp
      (go_at_call 32; refine (HCn.out _ _ (by first | exact hvr | exact NoRow.below hvr (by first | assumption | exact Below.drew (Below.refl _ _)))).mono ?_; rintro e w3 ⟨rfl, rfl⟩)
      refine hK.out _ _ ?_ (fun hHeld => ?_)
      · first | assumption | exact Below.drew (by assumption)
      clear hK K
      try simp only [Act.put, List.setIfInBounds_toArray, List.set_cons_zero, List.set_cons_succ]
      refine tk9 5 (by assumption) ?_
      refine tk9 6 (by assumption) ?_
      refine tk9 7 (by assumption) ?_
      refine wpAnyH_ready (rs := [8]) (by kernel_rfl) (by simp) ?_
      refine AllReadyH.cons rfl (fun K hK => ?_) AllReadyH.nil
      try go_simp
      (go_at_call 106; refine (HLg.out _ (by first | assumption | exact Below.refl _ _ | (repeat' first | assumption | exact Below.refl _ _ | apply kp_alloc | apply Below.drew))).mono ?_; rintro e w4 ⟨rfl, b4⟩; have k4 : Below W1.heap.size W1 w4 := (by refine trans9 ?_ b4; (repeat' first | assumption | exact Below.refl _ _ | exact Nat.le_refl _ | apply kp_alloc | apply kp_set | apply Below.drew | omega)))
      refine hK.out _ _ ?_ (fun hHeld => ?_)
      · first | assumption | exact Below.drew (by assumption)
      clear hK K
      try simp only [Act.put, List.setIfInBounds_toArray, List.set_cons_zero, List.set_cons_succ]
      refine tk9 9 (by assumption) ?_
      refine tk9 10 (by assumption) ?_
      refine tk9 11 (by assumption) ?_
      refine tk9 12 (by assumption) ?_
      refine tk9 13 (by assumption) ?_
      refine tk9 14 (by assumption) ?_
      refine tk9 15 (by assumption) ?_ (v := undef) (hy := Or.inr ⟨by rfl, rfl⟩)
      refine tk9 16 (by assumption) ?_ (v := undef) (hy := Or.inr ⟨by rfl, rfl⟩)
      refine tk9 17 (by assumption) ?_ (v := undef) (hy := Or.inr ⟨by rfl, rfl⟩)
      refine tk9 18 (by assumption) ?_
      refine tk9 19 (by assumption) ?_
      refine tk9 20 (by assumption) ?_
      refine tk9 21 (by assumption) ?_
      refine wpAnyH_ready (rs := [22]) (by kernel_rfl) (by simp) ?_
      refine AllReadyH.cons rfl (fun K hK => ?_) AllReadyH.nil
      try go_simp
      (go_at_call 107; refine (HBd.out _).mono ?_; rintro e w5 ⟨rfl, b5⟩; have k5 : Below W1.heap.size W1 w5 := (by refine trans9 ?_ b5; (repeat' first | assumption | exact Below.refl _ _ | exact Nat.le_refl _ | apply kp_alloc | apply kp_set | apply Below.drew | omega)))
      refine hK.out _ _ ?_ (fun hHeld => ?_)
      · first | assumption | exact Below.drew (by assumption)
      clear hK K
      try simp only [Act.put, List.setIfInBounds_toArray, List.set_cons_zero, List.set_cons_succ]
      refine tk9 23 (by assumption) ?_
      refine tk9 24 (by assumption) ?_
      refine tk9 25 (by assumption) ?_ (v := undef) (hy := Or.inr ⟨by rfl, rfl⟩)
      refine tk9 26 (by assumption) ?_ (v := undef) (hy := Or.inr ⟨by rfl, rfl⟩)
      refine tk9 27 (by assumption) ?_ (v := undef) (hy := Or.inr ⟨by rfl, rfl⟩)
      refine tk9 28 (by assumption) ?_
      refine tk9 29 (by assumption) ?_
      refine tk9 30 (by assumption) ?_ (v := undef) (hy := Or.inr ⟨by rfl, rfl⟩)
      refine tk9 31 (by assumption) ?_ (v := undef) (hy := Or.inr ⟨by rfl, rfl⟩)
      refine tk9 32 (by assumption) ?_
      refine tk9 33 (by assumption) ?_
      refine tk9 34 (by assumption) ?_ (v := undef) (hy := Or.inr ⟨by rfl, rfl⟩)
      refine tk9 35 (by assumption) ?_ (v := undef) (hy := Or.inr ⟨by rfl, rfl⟩)
      refine tk9 36 (by assumption) ?_ (v := undef) (hy := Or.inr ⟨by rfl, rfl⟩)
      refine tk9 37 (by assumption) ?_
      refine tk9 38 (by assumption) ?_
      refine wpAnyH_done (by kernel_rfl) ?_ _
      refine NoPanic.normal ?_
      go_wp2_with fail
      go_ret
      refine ⟨by first | rfl | (rw [E1.out]; rfl) | (simp; done) | (cases H <;> rfl), trans9 HB.out ?_⟩
      (repeat' first | assumption | exact Below.refl _ _ | exact Nat.le_refl _ | apply kp_alloc | apply kp_set | apply Below.drew | omega)
    | true =>
      cases V with
      | false =>
        refine wp_region_noPanic ?_
        refine wp_region_held_drew (S := fun z => Below W1.heap.size W1 z) (by kernel_rfl) ?_ (fun hHeld => ?_)
        · exact Below.drew (Below.refl _ _)
        refine tk9 0 (by assumption) ?_
        refine tk9 2 (by assumption) ?_
        refine tk9 3 (by assumption) ?_
        refine wpAnyH_ready (rs := [1]) (by kernel_rfl) (by simp) ?_
        refine AllReadyH.cons rfl (fun K hK => ?_) AllReadyH.nil
        try go_simp
        (go_at_call 105; refine (HRo.out _).mono ?_; rintro e w2 ⟨⟨vr, rfl, hvr⟩, b2⟩; have k2 : Below W1.heap.size W1 w2 := (by refine trans9 ?_ b2; (repeat' first | assumption | exact Below.refl _ _ | exact Nat.le_refl _ | apply kp_alloc | apply kp_set | apply Below.drew | omega)))
        refine hK.out _ _ ?_ (fun hHeld => ?_)
        · first | assumption | exact Below.drew (by assumption)
        clear hK K
        try simp only [Act.put, List.setIfInBounds_toArray, List.set_cons_zero, List.set_cons_succ]
        refine wpAnyH_ready (rs := [4]) (by kernel_rfl) (by simp) ?_
        refine AllReadyH.cons rfl (fun K hK => ?_) AllReadyH.nil
        try go_simp
        (go_at_call 32; refine (HCn.out _ _ (by first | exact hvr | exact NoRow.below hvr (by first | assumption | exact Below.drew (Below.refl _ _)))).mono ?_; rintro e w3 ⟨rfl, rfl⟩)
        refine hK.out _ _ ?_ (fun hHeld => ?_)
        · first | assumption | exact Below.drew (by assumption)
        clear hK K
        try simp only [Act.put, List.setIfInBounds_toArray, List.set_cons_zero, List.set_cons_succ]
        refine tk9 5 (by assumption) ?_
        refine tk9 6 (by assumption) ?_
        refine tk9 7 (by assumption) ?_
        refine wpAnyH_ready (rs := [8]) (by kernel_rfl) (by simp) ?_
        refine AllReadyH.cons rfl (fun K hK => ?_) AllReadyH.nil
        try go_simp
        (go_at_call 106; refine (HLg.out _ (by first | assumption | exact Below.refl _ _ | (repeat' first | assumption | exact Below.refl _ _ | apply kp_alloc | apply Below.drew))).mono ?_; rintro e w4 ⟨rfl, b4⟩; have k4 : Below W1.heap.size W1 w4 := (by refine trans9 ?_ b4; (repeat' first | assumption | exact Below.refl _ _ | exact Nat.le_refl _ | apply kp_alloc | apply kp_set | apply Below.drew | omega)))
        refine hK.out _ _ ?_ (fun hHeld => ?_)
        · first | assumption | exact Below.drew (by assumption)
        clear hK K
        try simp only [Act.put, List.setIfInBounds_toArray, List.set_cons_zero, List.set_cons_succ]
        refine tk9 9 (by assumption) ?_
        refine tk9 10 (by assumption) ?_
        refine tk9 11 (by assumption) ?_
        refine tk9 12 (by assumption) ?_
        refine tk9 13 (by assumption) ?_
        refine tk9 14 (by assumption) ?_
        refine tk9 15 (by assumption) ?_ (v := undef) (hy := Or.inr ⟨by rfl, rfl⟩)
        refine tk9 16 (by assumption) ?_ (v := undef) (hy := Or.inr ⟨by rfl, rfl⟩)
        refine tk9 17 (by assumption) ?_ (v := undef) (hy := Or.inr ⟨by rfl, rfl⟩)
        refine tk9 18 (by assumption) ?_
        refine tk9 19 (by assumption) ?_
        refine tk9 20 (by assumption) ?_
        refine tk9 21 (by assumption) ?_
        refine wpAnyH_ready (rs := [22]) (by kernel_rfl) (by simp) ?_
        refine AllReadyH.cons rfl (fun K hK => ?_) AllReadyH.nil
        try go_simp
        (go_at_call 107; refine (HBd.out _).mono ?_; rintro e w5 ⟨rfl, b5⟩; have k5 : Below W1.heap.size W1 w5 := (by refine trans9 ?_ b5; (repeat' first | assumption | exact Below.refl _ _ | exact Nat.le_refl _ | apply kp_alloc | apply kp_set | apply Below.drew | omega)))
        refine hK.out _ _ ?_ (fun hHeld => ?_)
        · first | assumption | exact Below.drew (by assumption)
        clear hK K
        try simp only [Act.put, List.setIfInBounds_toArray, List.set_cons_zero, List.set_cons_succ]
        refine tk9 23 (by assumption) ?_
        refine tk9 24 (by assumption) ?_
        refine tk9 25 (by assumption) ?_
        refine tk9 26 (by assumption) ?_
        refine wpAnyH_ready (rs := [27]) (by kernel_rfl) (by simp) ?_
        refine AllReadyH.cons rfl (fun K hK => ?_) AllReadyH.nil
        try go_simp
        (go_at_call 108; refine (HVl.out _).mono ?_; rintro e w6 ⟨rfl, b6⟩; have k6 : Below W1.heap.size W1 w6 := (by refine trans9 ?_ b6; (repeat' first | assumption | exact Below.refl _ _ | exact Nat.le_refl _ | apply kp_alloc | apply kp_set | apply Below.drew | omega)))
        refine hK.out _ _ ?_ (fun hHeld => ?_)
        · first | assumption | exact Below.drew (by assumption)
        clear hK K
        try simp only [Act.put, List.setIfInBounds_toArray, List.set_cons_zero, List.set_cons_succ]
        refine tk9 28 (by assumption) ?_
        refine tk9 29 (by assumption) ?_
        refine tk9 30 (by assumption) ?_ (v := undef) (hy := Or.inr ⟨by rfl, rfl⟩)
        refine tk9 31 (by assumption) ?_ (v := undef) (hy := Or.inr ⟨by rfl, rfl⟩)
        refine tk9 32 (by assumption) ?_
        refine tk9 33 (by assumption) ?_
        refine tk9 34 (by assumption) ?_ (v := undef) (hy := Or.inr ⟨by rfl, rfl⟩)
        refine tk9 35 (by assumption) ?_ (v := undef) (hy := Or.inr ⟨by rfl, rfl⟩)
        refine tk9 36 (by assumption) ?_ (v := undef) (hy := Or.inr ⟨by rfl, rfl⟩)
        refine tk9 37 (by assumption) ?_
        refine tk9 38 (by assumption) ?_
        refine wpAnyH_done (by kernel_rfl) ?_ _
        refine NoPanic.normal ?_
        go_wp2_with fail
        go_ret
        refine ⟨by first | rfl | (rw [E1.out]; rfl) | (simp; done) | (cases H <;> rfl), trans9 HB.out ?_⟩
        (repeat' first | assumption | exact Below.refl _ _ | exact Nat.le_refl _ | apply kp_alloc | apply kp_set | apply Below.drew | omega)
      | true =>
        cases T with
        | false =>
          refine wp_region_noPanic ?_
          refine wp_region_held_drew (S := fun z => Below W1.heap.size W1 z) (by kernel_rfl) ?_ (fun hHeld => ?_)
          · exact Below.drew (Below.refl _ _)
          refine tk9 0 (by assumption) ?_
          refine tk9 2 (by assumption) ?_
          refine tk9 3 (by assumption) ?_
          refine wpAnyH_ready (rs := [1]) (by kernel_rfl) (by simp) ?_
          refine AllReadyH.cons rfl (fun K hK => ?_) AllReadyH.nil
          try go_simp
          (go_at_call 105; refine (HRo.out _).mono ?_; rintro e w2 ⟨⟨vr, rfl, hvr⟩, b2⟩; have k2 : Below W1.heap.size W1 w2 := (by refine trans9 ?_ b2; (repeat' first | assumption | exact Below.refl _ _ | exact Nat.le_refl _ | apply kp_alloc | apply kp_set | apply Below.drew | omega)))
          refine hK.out _ _ ?_ (fun hHeld => ?_)
          · first | assumption | exact Below.drew (by assumption)
          clear hK K
          try simp only [Act.put, List.setIfInBounds_toArray, List.set_cons_zero, List.set_cons_succ]
          refine wpAnyH_ready (rs := [4]) (by kernel_rfl) (by simp) ?_
          refine AllReadyH.cons rfl (fun K hK => ?_) AllReadyH.nil
          try go_simp
          (go_at_call 32; refine (HCn.out _ _ (by first | exact hvr | exact NoRow.below hvr (by first | assumption | exact Below.drew (Below.refl _ _)))).mono ?_; rintro e w3 ⟨rfl, rfl⟩)
          refine hK.out _ _ ?_ (fun hHeld => ?_)
          · first | assumption | exact Below.drew (by assumption)
          clear hK K
          try simp only [Act.put, List.setIfInBounds_toArray, List.set_cons_zero, List.set_cons_succ]
          refine tk9 5 (by assumption) ?_
          refine tk9 6 (by assumption) ?_
          refine tk9 7 (by assumption) ?_
          refine wpAnyH_ready (rs := [8]) (by kernel_rfl) (by simp) ?_
          refine AllReadyH.cons rfl (fun K hK => ?_) AllReadyH.nil
          try go_simp
          (go_at_call 106; refine (HLg.out _ (by first | assumption | exact Below.refl _ _ | (repeat' first | assumption | exact Below.refl _ _ | apply kp_alloc | apply Below.drew))).mono ?_; rintro e w4 ⟨rfl, b4⟩; have k4 : Below W1.heap.size W1 w4 := (by refine trans9 ?_ b4; (repeat' first | assumption | exact Below.refl _ _ | exact Nat.le_refl _ | apply kp_alloc | apply kp_set | apply Below.drew | omega)))
          refine hK.out _ _ ?_ (fun hHeld => ?_)
          · first | assumption | exact Below.drew (by assumption)
          clear hK K
          try simp only [Act.put, List.setIfInBounds_toArray, List.set_cons_zero, List.set_cons_succ]
          refine tk9 9 (by assumption) ?_
          refine tk9 10 (by assumption) ?_
          refine tk9 11 (by assumption) ?_
          refine tk9 12 (by assumption) ?_
          refine tk9 13 (by assumption) ?_
          refine tk9 14 (by assumption) ?_
          refine tk9 15 (by assumption) ?_ (v := undef) (hy := Or.inr ⟨by rfl, rfl⟩)
          refine tk9 16 (by assumption) ?_ (v := undef) (hy := Or.inr ⟨by rfl, rfl⟩)
          refine tk9 17 (by assumption) ?_ (v := undef) (hy := Or.inr ⟨by rfl, rfl⟩)
          refine tk9 18 (by assumption) ?_
          refine tk9 19 (by assumption) ?_
          refine tk9 20 (by assumption) ?_
          refine tk9 21 (by assumption) ?_
          refine wpAnyH_ready (rs := [22]) (by kernel_rfl) (by simp) ?_
          refine AllReadyH.cons rfl (fun K hK => ?_) AllReadyH.nil
          try go_simp
          (go_at_call 107; refine (HBd.out _).mono ?_; rintro e w5 ⟨rfl, b5⟩; have k5 : Below W1.heap.size W1 w5 := (by refine trans9 ?_ b5; (repeat' first | assumption | exact Below.refl _ _ | exact Nat.le_refl _ | apply kp_alloc | apply kp_set | apply Below.drew | omega)))
          refine hK.out _ _ ?_ (fun hHeld => ?_)
          · first | assumption | exact Below.drew (by assumption)
          clear hK K
          try simp only [Act.put, List.setIfInBounds_toArray, List.set_cons_zero, List.set_cons_succ]
          refine tk9 23 (by assumption) ?_
          refine tk9 24 (by assumption) ?_
          refine tk9 25 (by assumption) ?_
          refine tk9 26 (by assumption) ?_
          refine wpAnyH_ready (rs := [27]) (by kernel_rfl) (by simp) ?_
          refine AllReadyH.cons rfl (fun K hK => ?_) AllReadyH.nil
          try go_simp
          (go_at_call 108; refine (HVl.out _).mono ?_; rintro e w6 ⟨rfl, b6⟩; have k6 : Below W1.heap.size W1 w6 := (by refine trans9 ?_ b6; (repeat' first | assumption | exact Below.refl _ _ | exact Nat.le_refl _ | apply kp_alloc | apply kp_set | apply Below.drew | omega)))
          refine hK.out _ _ ?_ (fun hHeld => ?_)
          · first | assumption | exact Below.drew (by assumption)
          clear hK K
          try simp only [Act.put, List.setIfInBounds_toArray, List.set_cons_zero, List.set_cons_succ]
          refine tk9 28 (by assumption) ?_
          refine tk9 29 (by assumption) ?_
          refine tk9 30 (by assumption) ?_
          refine wpAnyH_ready (rs := [31]) (by kernel_rfl) (by simp) ?_
          refine AllReadyH.cons rfl (fun K hK => ?_) AllReadyH.nil
          try go_simp
          (go_at_call 109; refine (HTm.out _ (by first | assumption | exact Below.refl _ _ | (repeat' first | assumption | exact Below.refl _ _ | apply kp_alloc | apply Below.drew))).mono ?_; rintro e w7 ⟨rfl, b7⟩; have k7 : Below W1.heap.size W1 w7 := (by refine trans9 ?_ b7; (repeat' first | assumption | exact Below.refl _ _ | exact Nat.le_refl _ | apply kp_alloc | apply kp_set | apply Below.drew | omega)))
          refine hK.out _ _ ?_ (fun hHeld => ?_)
          · first | assumption | exact Below.drew (by assumption)
          clear hK K
          try simp only [Act.put, List.setIfInBounds_toArray, List.set_cons_zero, List.set_cons_succ]
          refine tk9 32 (by assumption) ?_
          refine tk9 33 (by assumption) ?_
          refine tk9 34 (by assumption) ?_ (v := undef) (hy := Or.inr ⟨by rfl, rfl⟩)
          refine tk9 35 (by assumption) ?_ (v := undef) (hy := Or.inr ⟨by rfl, rfl⟩)
          refine tk9 36 (by assumption) ?_ (v := undef) (hy := Or.inr ⟨by rfl, rfl⟩)
          refine tk9 37 (by assumption) ?_
          refine tk9 38 (by assumption) ?_
          refine wpAnyH_done (by kernel_rfl) ?_ _
          refine NoPanic.normal ?_
          go_wp2_with fail
          go_ret
          refine ⟨by first | rfl | (rw [E1.out]; rfl) | (simp; done) | (cases H <;> rfl), trans9 HB.out ?_⟩
          (repeat' first | assumption | exact Below.refl _ _ | exact Nat.le_refl _ | apply kp_alloc | apply kp_set | apply Below.drew | omega)
        | true =>
          refine wp_region_noPanic ?_
          refine wp_region_held_drew (S := fun z => Below W1.heap.size W1 z) (by kernel_rfl) ?_ (fun hHeld => ?_)
          · exact Below.drew (Below.refl _ _)
          refine tk9 0 (by assumption) ?_
          refine tk9 2 (by assumption) ?_
          refine tk9 3 (by assumption) ?_
          refine wpAnyH_ready (rs := [1]) (by kernel_rfl) (by simp) ?_
          refine AllReadyH.cons rfl (fun K hK => ?_) AllReadyH.nil
          try go_simp
          (go_at_call 105; refine (HRo.out _).mono ?_; rintro e w2 ⟨⟨vr, rfl, hvr⟩, b2⟩; have k2 : Below W1.heap.size W1 w2 := (by refine trans9 ?_ b2; (repeat' first | assumption | exact Below.refl _ _ | exact Nat.le_refl _ | apply kp_alloc | apply kp_set | apply Below.drew | omega)))
          refine hK.out _ _ ?_ (fun hHeld => ?_)
          · first | assumption | exact Below.drew (by assumption)
          clear hK K
          try simp only [Act.put, List.setIfInBounds_toArray, List.set_cons_zero, List.set_cons_succ]
          refine wpAnyH_ready (rs := [4]) (by kernel_rfl) (by simp) ?_
          refine AllReadyH.cons rfl (fun K hK => ?_) AllReadyH.nil
          try go_simp
          (go_at_call 32; refine (HCn.out _ _ (by first | exact hvr | exact NoRow.below hvr (by first | assumption | exact Below.drew (Below.refl _ _)))).mono ?_; rintro e w3 ⟨rfl, rfl⟩)
          refine hK.out _ _ ?_ (fun hHeld => ?_)
          · first | assumption | exact Below.drew (by assumption)
          clear hK K
          try simp only [Act.put, List.setIfInBounds_toArray, List.set_cons_zero, List.set_cons_succ]
          refine tk9 5 (by assumption) ?_
          refine tk9 6 (by assumption) ?_
          refine tk9 7 (by assumption) ?_
          refine wpAnyH_ready (rs := [8]) (by kernel_rfl) (by simp) ?_
          refine AllReadyH.cons rfl (fun K hK => ?_) AllReadyH.nil
          try go_simp
          (go_at_call 106; refine (HLg.out _ (by first | assumption | exact Below.refl _ _ | (repeat' first | assumption | exact Below.refl _ _ | apply kp_alloc | apply Below.drew))).mono ?_; rintro e w4 ⟨rfl, b4⟩; have k4 : Below W1.heap.size W1 w4 := (by refine trans9 ?_ b4; (repeat' first | assumption | exact Below.refl _ _ | exact Nat.le_refl _ | apply kp_alloc | apply kp_set | apply Below.drew | omega)))
          refine hK.out _ _ ?_ (fun hHeld => ?_)
          · first | assumption | exact Below.drew (by assumption)
          clear hK K
          try simp only [Act.put, List.setIfInBounds_toArray, List.set_cons_zero, List.set_cons_succ]
          refine tk9 9 (by assumption) ?_
          refine tk9 10 (by assumption) ?_
          refine tk9 11 (by assumption) ?_
          refine tk9 12 (by assumption) ?_
          refine tk9 13 (by assumption) ?_
          refine tk9 14 (by assumption) ?_
          refine tk9 15 (by assumption) ?_ (v := undef) (hy := Or.inr ⟨by rfl, rfl⟩)
          refine tk9 16 (by assumption) ?_ (v := undef) (hy := Or.inr ⟨by rfl, rfl⟩)
          refine tk9 17 (by assumption) ?_ (v := undef) (hy := Or.inr ⟨by rfl, rfl⟩)
          refine tk9 18 (by assumption) ?_
          refine tk9 19 (by assumption) ?_
          refine tk9 20 (by assumption) ?_
          refine tk9 21 (by assumption) ?_
          refine wpAnyH_ready (rs := [22]) (by kernel_rfl) (by simp) ?_
          refine AllReadyH.cons rfl (fun K hK => ?_) AllReadyH.nil
          try go_simp
          (go_at_call 107; refine (HBd.out _).mono ?_; rintro e w5 ⟨rfl, b5⟩; have k5 : Below W1.heap.size W1 w5 := (by refine trans9 ?_ b5; (repeat' first | assumption | exact Below.refl _ _ | exact Nat.le_refl _ | apply kp_alloc | apply kp_set | apply Below.drew | omega)))
          refine hK.out _ _ ?_ (fun hHeld => ?_)
          · first | assumption | exact Below.drew (by assumption)
          clear hK K
          try simp only [Act.put, List.setIfInBounds_toArray, List.set_cons_zero, List.set_cons_succ]
          refine tk9 23 (by assumption) ?_
          refine tk9 24 (by assumption) ?_
          refine tk9 25 (by assumption) ?_
          refine tk9 26 (by assumption) ?_
          refine wpAnyH_ready (rs := [27]) (by kernel_rfl) (by simp) ?_
          refine AllReadyH.cons rfl (fun K hK => ?_) AllReadyH.nil
          try go_simp
          (go_at_call 108; refine (HVl.out _).mono ?_; rintro e w6 ⟨rfl, b6⟩; have k6 : Below W1.heap.size W1 w6 := (by refine trans9 ?_ b6; (repeat' first | assumption | exact Below.refl _ _ | exact Nat.le_refl _ | apply kp_alloc | apply kp_set | apply Below.drew | omega)))
          refine hK.out _ _ ?_ (fun hHeld => ?_)
          · first | assumption | exact Below.drew (by assumption)
          clear hK K
          try simp only [Act.put, List.setIfInBounds_toArray, List.set_cons_zero, List.set_cons_succ]
          refine tk9 28 (by assumption) ?_
          refine tk9 29 (by assumption) ?_
          refine tk9 30 (by assumption) ?_
          refine wpAnyH_ready (rs := [31]) (by kernel_rfl) (by simp) ?_
          refine AllReadyH.cons rfl (fun K hK => ?_) AllReadyH.nil
          try go_simp
          (go_at_call 109; refine (HTm.out _ (by first | assumption | exact Below.refl _ _ | (repeat' first | assumption | exact Below.refl _ _ | apply kp_alloc | apply Below.drew))).mono ?_; rintro e w7 ⟨rfl, b7⟩; have k7 : Below W1.heap.size W1 w7 := (by refine trans9 ?_ b7; (repeat' first | assumption | exact Below.refl _ _ | exact Nat.le_refl _ | apply kp_alloc | apply kp_set | apply Below.drew | omega)))
          refine hK.out _ _ ?_ (fun hHeld => ?_)
          · first | assumption | exact Below.drew (by assumption)
          clear hK K
          try simp only [Act.put, List.setIfInBounds_toArray, List.set_cons_zero, List.set_cons_succ]
          refine tk9 32 (by assumption) ?_
          refine tk9 33 (by assumption) ?_
          refine tk9 34 (by assumption) ?_
          refine wpAnyH_ready (rs := [35]) (by kernel_rfl) (by simp) ?_
          refine AllReadyH.cons rfl (fun K hK => ?_) AllReadyH.nil
          try go_simp
          (go_at_call 110; refine (HHl.out _ (by first | assumption | exact Below.refl _ _ | (repeat' first | assumption | exact Below.refl _ _ | apply kp_alloc | apply Below.drew))).mono ?_; rintro e w8 ⟨rfl, b8⟩; have k8 : Below W1.heap.size W1 w8 := (by refine trans9 ?_ b8; (repeat' first | assumption | exact Below.refl _ _ | exact Nat.le_refl _ | apply kp_alloc | apply kp_set | apply Below.drew | omega)))
          refine hK.out _ _ ?_ (fun hHeld => ?_)
          · first | assumption | exact Below.drew (by assumption)
          clear hK K
          try simp only [Act.put, List.setIfInBounds_toArray, List.set_cons_zero, List.set_cons_succ]
          refine tk9 36 (by assumption) ?_
          refine tk9 37 (by assumption) ?_
          refine tk9 38 (by assumption) ?_
          refine wpAnyH_done (by kernel_rfl) ?_ _
          refine NoPanic.normal ?_
          go_wp2_with fail
          go_ret
          refine ⟨by first | rfl | (rw [E1.out]; rfl) | (simp; done) | (cases H <;> rfl), trans9 HB.out ?_⟩
          (repeat' first | assumption | exact Below.refl _ _ | exact Nat.le_refl _ | apply kp_alloc | apply kp_set | apply Below.drew | omega)
  | true =>
    by_cases h1 : ro = 1
    · subst h1
      cases B with
      | false =>
        refine wp_region_noPanic ?_
        refine wp_region_held_drew (S := fun z => Below W1.heap.size W1 z) (by kernel_rfl) ?_ (fun hHeld => ?_)
        · exact Below.drew (Below.refl _ _)
        refine tk9 0 (by assumption) ?_
        refine tk9 2 (by assumption) ?_
        refine tk9 3 (by assumption) ?_
        refine wpAnyH_ready (rs := [1]) (by kernel_rfl) (by simp) ?_
        refine AllReadyH.cons rfl (fun K hK => ?_) AllReadyH.nil
        try go_simp
        (go_at_call 105; refine (HRo.out _).mono ?_; rintro e w2 ⟨⟨vr, rfl, hvr⟩, b2⟩; have k2 : Below W1.heap.size W1 w2 := (by refine trans9 ?_ b2; (repeat' first | assumption | exact Below.refl _ _ | exact Nat.le_refl _ | apply kp_alloc | apply kp_set | apply Below.drew | omega)))
        refine hK.out _ _ ?_ (fun hHeld => ?_)
        · first | assumption | exact Below.drew (by assumption)
        clear hK K
        try simp only [Act.put, List.setIfInBounds_toArray, List.set_cons_zero, List.set_cons_succ]
        refine wpAnyH_ready (rs := [4]) (by kernel_rfl) (by simp) ?_
        refine AllReadyH.cons rfl (fun K hK => ?_) AllReadyH.nil
        try go_simp
        (go_at_call 32; refine (HCn.out _ _ (by first | exact hvr | exact NoRow.below hvr (by first | assumption | exact Below.drew (Below.refl _ _)))).mono ?_; rintro e w3 ⟨rfl, rfl⟩)
        refine hK.out _ _ ?_ (fun hHeld => ?_)
        · first | assumption | exact Below.drew (by assumption)
        clear hK K
        try simp only [Act.put, List.setIfInBounds_toArray, List.set_cons_zero, List.set_cons_succ]
        refine tk9 5 (by assumption) ?_
        refine tk9 6 (by assumption) ?_
        refine tk9 7 (by assumption) ?_
        refine wpAnyH_ready (rs := [8]) (by kernel_rfl) (by simp) ?_
        refine AllReadyH.cons rfl (fun K hK => ?_) AllReadyH.nil
        try go_simp
        (go_at_call 106; refine (HLg.out _ (by first | assumption | exact Below.refl _ _ | (repeat' first | assumption | exact Below.refl _ _ | apply kp_alloc | apply Below.drew))).mono ?_; rintro e w4 ⟨rfl, b4⟩; have k4 : Below W1.heap.size W1 w4 := (by refine trans9 ?_ b4; (repeat' first | assumption | exact Below.refl _ _ | exact Nat.le_refl _ | apply kp_alloc | apply kp_set | apply Below.drew | omega)))
        refine hK.out _ _ ?_ (fun hHeld => ?_)
        · first | assumption | exact Below.drew (by assumption)
        clear hK K
        try simp only [Act.put, List.setIfInBounds_toArray, List.set_cons_zero, List.set_cons_succ]
        refine tk9 9 (by assumption) ?_
        refine tk9 10 (by assumption) ?_
        refine tk9 11 (by assumption) ?_
        refine tk9 12 (by assumption) ?_
        refine tk9 13 (by assumption) ?_
        refine tk9 14 (by assumption) ?_
        refine tk9 15 (by assumption) ?_
        refine tk9 16 (by assumption) ?_
        refine tk9 17 (by assumption) ?_
        refine tk9 18 (by assumption) ?_
        refine tk9 19 (by assumption) ?_
        refine tk9 20 (by assumption) ?_
        refine tk9 21 (by assumption) ?_
        refine wpAnyH_ready (rs := [22]) (by kernel_rfl) (by simp) ?_
        refine AllReadyH.cons rfl (fun K hK => ?_) AllReadyH.nil
        try go_simp
        (go_at_call 107; refine (HBd.out _).mono ?_; rintro e w5 ⟨rfl, b5⟩; have k5 : Below W1.heap.size W1 w5 := (by refine trans9 ?_ b5; (repeat' first | assumption | exact Below.refl _ _ | exact Nat.le_refl _ | apply kp_alloc | apply kp_set | apply Below.drew | omega)))
        refine hK.out _ _ ?_ (fun hHeld => ?_)
        · first | assumption | exact Below.drew (by assumption)
        clear hK K
        try simp only [Act.put, List.setIfInBounds_toArray, List.set_cons_zero, List.set_cons_succ]
        refine tk9 23 (by assumption) ?_
        refine tk9 24 (by assumption) ?_
        refine tk9 25 (by assumption) ?_ (v := undef) (hy := Or.inr ⟨by rfl, rfl⟩)
        refine tk9 26 (by assumption) ?_ (v := undef) (hy := Or.inr ⟨by rfl, rfl⟩)
        refine tk9 27 (by assumption) ?_ (v := undef) (hy := Or.inr ⟨by rfl, rfl⟩)
        refine tk9 28 (by assumption) ?_
        refine tk9 29 (by assumption) ?_
        refine tk9 30 (by assumption) ?_ (v := undef) (hy := Or.inr ⟨by rfl, rfl⟩)
        refine tk9 31 (by assumption) ?_ (v := undef) (hy := Or.inr ⟨by rfl, rfl⟩)
        refine tk9 32 (by assumption) ?_
        refine tk9 33 (by assumption) ?_
        refine tk9 34 (by assumption) ?_ (v := undef) (hy := Or.inr ⟨by rfl, rfl⟩)
        refine tk9 35 (by assumption) ?_ (v := undef) (hy := Or.inr ⟨by rfl, rfl⟩)
        refine tk9 36 (by assumption) ?_ (v := undef) (hy := Or.inr ⟨by rfl, rfl⟩)
        refine tk9 37 (by assumption) ?_
        refine tk9 38 (by assumption) ?_
        refine wpAnyH_done (by kernel_rfl) ?_ _
        refine NoPanic.normal ?_
        go_wp2_with fail
        go_ret
        refine ⟨by first | rfl | (rw [E1.out]; rfl) | (simp; done) | (cases H <;> rfl), trans9 HB.out ?_⟩
        (repeat' first | assumption | exact Below.refl _ _ | exact Nat.le_refl _ | apply kp_alloc | apply kp_set | apply Below.drew | omega)
      | true =>
        cases V with
        | false =>
          refine wp_region_noPanic ?_
          refine wp_region_held_drew (S := fun z => Below W1.heap.size W1 z) (by kernel_rfl) ?_ (fun hHeld => ?_)
          · exact Below.drew (Below.refl _ _)
          refine tk9 0 (by assumption) ?_
          refine tk9 2 (by assumption) ?_
          refine tk9 3 (by assumption) ?_
          refine wpAnyH_ready (rs := [1]) (by kernel_rfl) (by simp) ?_
          refine AllReadyH.cons rfl (fun K hK => ?_) AllReadyH.nil
          try go_simp
          (go_at_call 105; refine (HRo.out _).mono ?_; rintro e w2 ⟨⟨vr, rfl, hvr⟩, b2⟩; have k2 : Below W1.heap.size W1 w2 := (by refine trans9 ?_ b2; (repeat' first | assumption | exact Below.refl _ _ | exact Nat.le_refl _ | apply kp_alloc | apply kp_set | apply Below.drew | omega)))
          refine hK.out _ _ ?_ (fun hHeld => ?_)
          · first | assumption | exact Below.drew (by assumption)
          clear hK K
          try simp only [Act.put, List.setIfInBounds_toArray, List.set_cons_zero, List.set_cons_succ]
          refine wpAnyH_ready (rs := [4]) (by kernel_rfl) (by simp) ?_
          refine AllReadyH.cons rfl (fun K hK => ?_) AllReadyH.nil
          try go_simp
          (go_at_call 32; refine (HCn.out _ _ (by first | exact hvr | exact NoRow.below hvr (by first | assumption | exact Below.drew (Below.refl _ _)))).mono ?_; rintro e w3 ⟨rfl, rfl⟩)
          refine hK.out _ _ ?_ (fun hHeld => ?_)
          · first | assumption | exact Below.drew (by assumption)
          clear hK K
          try simp only [Act.put, List.setIfInBounds_toArray, List.set_cons_zero, List.set_cons_succ]
          refine tk9 5 (by assumption) ?_
          refine tk9 6 (by assumption) ?_
          refine tk9 7 (by assumption) ?_
          refine wpAnyH_ready (rs := [8]) (by kernel_rfl) (by simp) ?_
          refine AllReadyH.cons rfl (fun K hK => ?_) AllReadyH.nil
          try go_simp
          (go_at_call 106; refine (HLg.out _ (by first | assumption | exact Below.refl _ _ | (repeat' first | assumption | exact Below.refl _ _ | apply kp_alloc | apply Below.drew))).mono ?_; rintro e w4 ⟨rfl, b4⟩; have k4 : Below W1.heap.size W1 w4 := (by refine trans9 ?_ b4; (repeat' first | assumption | exact Below.refl _ _ | exact Nat.le_refl _ | apply kp_alloc | apply kp_set | apply Below.drew | omega)))
          refine hK.out _ _ ?_ (fun hHeld => ?_)
          · first | assumption | exact Below.drew (by assumption)
          clear hK K
          try simp only [Act.put, List.setIfInBounds_toArray, List.set_cons_zero, List.set_cons_succ]
          refine tk9 9 (by assumption) ?_
          refine tk9 10 (by assumption) ?_
          refine tk9 11 (by assumption) ?_
          refine tk9 12 (by assumption) ?_
          refine tk9 13 (by assumption) ?_
          refine tk9 14 (by assumption) ?_
          refine tk9 15 (by assumption) ?_
          refine tk9 16 (by assumption) ?_
          refine tk9 17 (by assumption) ?_
          refine tk9 18 (by assumption) ?_
          refine tk9 19 (by assumption) ?_
          refine tk9 20 (by assumption) ?_
          refine tk9 21 (by assumption) ?_
          refine wpAnyH_ready (rs := [22]) (by kernel_rfl) (by simp) ?_
          refine AllReadyH.cons rfl (fun K hK => ?_) AllReadyH.nil
          try go_simp
          (go_at_call 107; refine (HBd.out _).mono ?_; rintro e w5 ⟨rfl, b5⟩; have k5 : Below W1.heap.size W1 w5 := (by refine trans9 ?_ b5; (repeat' first | assumption | exact Below.refl _ _ | exact Nat.le_refl _ | apply kp_alloc | apply kp_set | apply Below.drew | omega)))
          refine hK.out _ _ ?_ (fun hHeld => ?_)
          · first | assumption | exact Below.drew (by assumption)
          clear hK K
          try simp only [Act.put, List.setIfInBounds_toArray, List.set_cons_zero, List.set_cons_succ]
          refine tk9 23 (by assumption) ?_
          refine tk9 24 (by assumption) ?_
          refine tk9 25 (by assumption) ?_
          refine tk9 26 (by assumption) ?_
          refine wpAnyH_ready (rs := [27]) (by kernel_rfl) (by simp) ?_
          refine AllReadyH.cons rfl (fun K hK => ?_) AllReadyH.nil
          try go_simp
          (go_at_call 108; refine (HVl.out _).mono ?_; rintro e w6 ⟨rfl, b6⟩; have k6 : Below W1.heap.size W1 w6 := (by refine trans9 ?_ b6; (repeat' first | assumption | exact Below.refl _ _ | exact Nat.le_refl _ | apply kp_alloc | apply kp_set | apply Below.drew | omega)))
          refine hK.out _ _ ?_ (fun hHeld => ?_)
          · first | assumption | exact Below.drew (by assumption)
          clear hK K
          try simp only [Act.put, List.setIfInBounds_toArray, List.set_cons_zero, List.set_cons_succ]
          refine tk9 28 (by assumption) ?_
          refine tk9 29 (by assumption) ?_
          refine tk9 30 (by assumption) ?_ (v := undef) (hy := Or.inr ⟨by rfl, rfl⟩)
          refine tk9 31 (by assumption) ?_ (v := undef) (hy := Or.inr ⟨by rfl, rfl⟩)
          refine tk9 32 (by assumption) ?_
          refine tk9 33 (by assumption) ?_
          refine tk9 34 (by assumption) ?_ (v := undef) (hy := Or.inr ⟨by rfl, rfl⟩)
          refine tk9 35 (by assumption) ?_ (v := undef) (hy := Or.inr ⟨by rfl, rfl⟩)
          refine tk9 36 (by assumption) ?_ (v := undef) (hy := Or.inr ⟨by rfl, rfl⟩)
          refine tk9 37 (by assumption) ?_
          refine tk9 38 (by assumption) ?_
          refine wpAnyH_done (by kernel_rfl) ?_ _
          refine NoPanic.normal ?_
          go_wp2_with fail
          go_ret
          refine ⟨by first | rfl | (rw [E1.out]; rfl) | (simp; done) | (cases H <;> rfl), trans9 HB.out ?_⟩
          (repeat' first | assumption | exact Below.refl _ _ | exact Nat.le_refl _ | apply kp_alloc | apply kp_set | apply Below.drew | omega)
        | true =>
          cases T with
          | false =>
            refine wp_region_noPanic ?_
            refine wp_region_held_drew (S := fun z => Below W1.heap.size W1 z) (by kernel_rfl) ?_ (fun hHeld => ?_)
            · exact Below.drew (Below.refl _ _)
            refine tk9 0 (by assumption) ?_
            refine tk9 2 (by assumption) ?_
            refine tk9 3 (by assumption) ?_
            refine wpAnyH_ready (rs := [1]) (by kernel_rfl) (by simp) ?_
            refine AllReadyH.cons rfl (fun K hK => ?_) AllReadyH.nil
            try go_simp
            (go_at_call 105; refine (HRo.out _).mono ?_; rintro e w2 ⟨⟨vr, rfl, hvr⟩, b2⟩; have k2 : Below W1.heap.size W1 w2 := (by refine trans9 ?_ b2; (repeat' first | assumption | exact Below.refl _ _ | exact Nat.le_refl _ | apply kp_alloc | apply kp_set | apply Below.drew | omega)))
            refine hK.out _ _ ?_ (fun hHeld => ?_)
            · first | assumption | exact Below.drew (by assumption)
            clear hK K
            try simp only [Act.put, List.setIfInBounds_toArray, List.set_cons_zero, List.set_cons_succ]
            refine wpAnyH_ready (rs := [4]) (by kernel_rfl) (by simp) ?_
            refine AllReadyH.cons rfl (fun K hK => ?_) AllReadyH.nil
            try go_simp
            (go_at_call 32; refine (HCn.out _ _ (by first | exact hvr | exact NoRow.below hvr (by first | assumption | exact Below.drew (Below.refl _ _)))).mono ?_; rintro e w3 ⟨rfl, rfl⟩)
            refine hK.out _ _ ?_ (fun hHeld => ?_)
            · first | assumption | exact Below.drew (by assumption)
            clear hK K
            try simp only [Act.put, List.setIfInBounds_toArray, List.set_cons_zero, List.set_cons_succ]
            refine tk9 5 (by assumption) ?_
            refine tk9 6 (by assumption) ?_
            refine tk9 7 (by assumption) ?_
            refine wpAnyH_ready (rs := [8]) (by kernel_rfl) (by simp) ?_
            refine AllReadyH.cons rfl (fun K hK => ?_) AllReadyH.nil
            try go_simp
            (go_at_call 106; refine (HLg.out _ (by first | assumption | exact Below.refl _ _ | (repeat' first | assumption | exact Below.refl _ _ | apply kp_alloc | apply Below.drew))).mono ?_; rintro e w4 ⟨rfl, b4⟩; have k4 : Below W1.heap.size W1 w4 := (by refine trans9 ?_ b4; (repeat' first | assumption | exact Below.refl _ _ | exact Nat.le_refl _ | apply kp_alloc | apply kp_set | apply Below.drew | omega)))
            refine hK.out _ _ ?_ (fun hHeld => ?_)
            · first | assumption | exact Below.drew (by assumption)
            clear hK K
            try simp only [Act.put, List.setIfInBounds_toArray, List.set_cons_zero, List.set_cons_succ]
            refine tk9 9 (by assumption) ?_
            refine tk9 10 (by assumption) ?_
            refine tk9 11 (by assumption) ?_
            refine tk9 12 (by assumption) ?_
            refine tk9 13 (by assumption) ?_
            refine tk9 14 (by assumption) ?_
            refine tk9 15 (by assumption) ?_
            refine tk9 16 (by assumption) ?_
            refine tk9 17 (by assumption) ?_
            refine tk9 18 (by assumption) ?_
            refine tk9 19 (by assumption) ?_
            refine tk9 20 (by assumption) ?_
            refine tk9 21 (by assumption) ?_
            refine wpAnyH_ready (rs := [22]) (by kernel_rfl) (by simp) ?_
            refine AllReadyH.cons rfl (fun K hK => ?_) AllReadyH.nil
            try go_simp
            (go_at_call 107; refine (HBd.out _).mono ?_; rintro e w5 ⟨rfl, b5⟩; have k5 : Below W1.heap.size W1 w5 := (by refine trans9 ?_ b5; (repeat' first | assumption | exact Below.refl _ _ | exact Nat.le_refl _ | apply kp_alloc | apply kp_set | apply Below.drew | omega)))
            refine hK.out _ _ ?_ (fun hHeld => ?_)
            · first | assumption | exact Below.drew (by assumption)
            clear hK K
            try simp only [Act.put, List.setIfInBounds_toArray, List.set_cons_zero, List.set_cons_succ]
            refine tk9 23 (by assumption) ?_
            refine tk9 24 (by assumption) ?_
            refine tk9 25 (by assumption) ?_
            refine tk9 26 (by assumption) ?_
            refine wpAnyH_ready (rs := [27]) (by kernel_rfl) (by simp) ?_
            refine AllReadyH.cons rfl (fun K hK => ?_) AllReadyH.nil
            try go_simp
            (go_at_call 108; refine (HVl.out _).mono ?_; rintro e w6 ⟨rfl, b6⟩; have k6 : Below W1.heap.size W1 w6 := (by refine trans9 ?_ b6; (repeat' first | assumption | exact Below.refl _ _ | exact Nat.le_refl _ | apply kp_alloc | apply kp_set | apply Below.drew | omega)))
            refine hK.out _ _ ?_ (fun hHeld => ?_)
            · first | assumption | exact Below.drew (by assumption)
            clear hK K
            try simp only [Act.put, List.setIfInBounds_toArray, List.set_cons_zero, List.set_cons_succ]
            refine tk9 28 (by assumption) ?_
            refine tk9 29 (by assumption) ?_
            refine tk9 30 (by assumption) ?_
            refine wpAnyH_ready (rs := [31]) (by kernel_rfl) (by simp) ?_
            refine AllReadyH.cons rfl (fun K hK => ?_) AllReadyH.nil
            try go_simp
            (go_at_call 109; refine (HTm.out _ (by first | assumption | exact Below.refl _ _ | (repeat' first | assumption | exact Below.refl _ _ | apply kp_alloc | apply Below.drew))).mono ?_; rintro e w7 ⟨rfl, b7⟩; have k7 : Below W1.heap.size W1 w7 := (by refine trans9 ?_ b7; (repeat' first | assumption | exact Below.refl _ _ | exact Nat.le_refl _ | apply kp_alloc | apply kp_set | apply Below.drew | omega)))
            refine hK.out _ _ ?_ (fun hHeld => ?_)
            · first | assumption | exact Below.drew (by assumption)
            clear hK K
            try simp only [Act.put, List.setIfInBounds_toArray, List.set_cons_zero, List.set_cons_succ]
            refine tk9 32 (by assumption) ?_
            refine tk9 33 (by assumption) ?_
            refine tk9 34 (by assumption) ?_ (v := undef) (hy := Or.inr ⟨by rfl, rfl⟩)
            refine tk9 35 (by assumption) ?_ (v := undef) (hy := Or.inr ⟨by rfl, rfl⟩)
            refine tk9 36 (by assumption) ?_ (v := undef) (hy := Or.inr ⟨by rfl, rfl⟩)
            refine tk9 37 (by assumption) ?_
            refine tk9 38 (by assumption) ?_
            refine wpAnyH_done (by kernel_rfl) ?_ _
            refine NoPanic.normal ?_
            go_wp2_with fail
            go_ret
            refine ⟨by first | rfl | (rw [E1.out]; rfl) | (simp; done) | (cases H <;> rfl), trans9 HB.out ?_⟩
            (repeat' first | assumption | exact Below.refl _ _ | exact Nat.le_refl _ | apply kp_alloc | apply kp_set | apply Below.drew | omega)
          | true =>
            refine wp_region_noPanic ?_
            refine wp_region_held_drew (S := fun z => Below W1.heap.size W1 z) (by kernel_rfl) ?_ (fun hHeld => ?_)
            · exact Below.drew (Below.refl _ _)
            refine tk9 0 (by assumption) ?_
            refine tk9 2 (by assumption) ?_
            refine tk9 3 (by assumption) ?_
            refine wpAnyH_ready (rs := [1]) (by kernel_rfl) (by simp) ?_
            refine AllReadyH.cons rfl (fun K hK => ?_) AllReadyH.nil
            try go_simp
            (go_at_call 105; refine (HRo.out _).mono ?_; rintro e w2 ⟨⟨vr, rfl, hvr⟩, b2⟩; have k2 : Below W1.heap.size W1 w2 := (by refine trans9 ?_ b2; (repeat' first | assumption | exact Below.refl _ _ | exact Nat.le_refl _ | apply kp_alloc | apply kp_set | apply Below.drew | omega)))
            refine hK.out _ _ ?_ (fun hHeld => ?_)
            · first | assumption | exact Below.drew (by assumption)
            clear hK K
            try simp only [Act.put, List.setIfInBounds_toArray, List.set_cons_zero, List.set_cons_succ]
            refine wpAnyH_ready (rs := [4]) (by kernel_rfl) (by simp) ?_
            refine AllReadyH.cons rfl (fun K hK => ?_) AllReadyH.nil
            try go_simp
            (go_at_call 32; refine (HCn.out _ _ (by first | exact hvr | exact NoRow.below hvr (by first | assumption | exact Below.drew (Below.refl _ _)))).mono ?_; rintro e w3 ⟨rfl, rfl⟩)
            refine hK.out _ _ ?_ (fun hHeld => ?_)
            · first | assumption | exact Below.drew (by assumption)
            clear hK K
            try simp only [Act.put, List.setIfInBounds_toArray, List.set_cons_zero, List.set_cons_succ]
            refine tk9 5 (by assumption) ?_
            refine tk9 6 (by assumption) ?_
            refine tk9 7 (by assumption) ?_
            refine wpAnyH_ready (rs := [8]) (by kernel_rfl) (by simp) ?_
            refine AllReadyH.cons rfl (fun K hK => ?_) AllReadyH.nil
            try go_simp
            (go_at_call 106; refine (HLg.out _ (by first | assumption | exact Below.refl _ _ | (repeat' first | assumption | exact Below.refl _ _ | apply kp_alloc | apply Below.drew))).mono ?_; rintro e w4 ⟨rfl, b4⟩; have k4 : Below W1.heap.size W1 w4 := (by refine trans9 ?_ b4; (repeat' first | assumption | exact Below.refl _ _ | exact Nat.le_refl _ | apply kp_alloc | apply kp_set | apply Below.drew | omega)))
            refine hK.out _ _ ?_ (fun hHeld => ?_)
            · first | assumption | exact Below.drew (by assumption)
            clear hK K
            try simp only [Act.put, List.setIfInBounds_toArray, List.set_cons_zero, List.set_cons_succ]
            refine tk9 9 (by assumption) ?_
            refine tk9 10 (by assumption) ?_
            refine tk9 11 (by assumption) ?_
            refine tk9 12 (by assumption) ?_
            refine tk9 13 (by assumption) ?_
            refine tk9 14 (by assumption) ?_
            refine tk9 15 (by assumption) ?_
            refine tk9 16 (by assumption) ?_
            refine tk9 17 (by assumption) ?_
            refine tk9 18 (by assumption) ?_
            refine tk9 19 (by assumption) ?_
            refine tk9 20 (by assumption) ?_
            refine tk9 21 (by assumption) ?_
            refine wpAnyH_ready (rs := [22]) (by kernel_rfl) (by simp) ?_
            refine AllReadyH.cons rfl (fun K hK => ?_) AllReadyH.nil
            try go_simp
            (go_at_call 107; refine (HBd.out _).mono ?_; rintro e w5 ⟨rfl, b5⟩; have k5 : Below W1.heap.size W1 w5 := (by refine trans9 ?_ b5; (repeat' first | assumption | exact Below.refl _ _ | exact Nat.le_refl _ | apply kp_alloc | apply kp_set | apply Below.drew | omega)))
            refine hK.out _ _ ?_ (fun hHeld => ?_)
            · first | assumption | exact Below.drew (by assumption)
            clear hK K
            try simp only [Act.put, List.setIfInBounds_toArray, List.set_cons_zero, List.set_cons_succ]
            refine tk9 23 (by assumption) ?_
            refine tk9 24 (by assumption) ?_
            refine tk9 25 (by assumption) ?_
            refine tk9 26 (by assumption) ?_
            refine wpAnyH_ready (rs := [27]) (by kernel_rfl) (by simp) ?_
            refine AllReadyH.cons rfl (fun K hK => ?_) AllReadyH.nil
            try go_simp
            (go_at_call 108; refine (HVl.out _).mono ?_; rintro e w6 ⟨rfl, b6⟩; have k6 : Below W1.heap.size W1 w6 := (by refine trans9 ?_ b6; (repeat' first | assumption | exact Below.refl _ _ | exact Nat.le_refl _ | apply kp_alloc | apply kp_set | apply Below.drew | omega)))
            refine hK.out _ _ ?_ (fun hHeld => ?_)
            · first | assumption | exact Below.drew (by assumption)
            clear hK K
            try simp only [Act.put, List.setIfInBounds_toArray, List.set_cons_zero, List.set_cons_succ]
            refine tk9 28 (by assumption) ?_
            refine tk9 29 (by assumption) ?_
            refine tk9 30 (by assumption) ?_
            refine wpAnyH_ready (rs := [31]) (by kernel_rfl) (by simp) ?_
            refine AllReadyH.cons rfl (fun K hK => ?_) AllReadyH.nil
            try go_simp
            (go_at_call 109; refine (HTm.out _ (by first | assumption | exact Below.refl _ _ | (repeat' first | assumption | exact Below.refl _ _ | apply kp_alloc | apply Below.drew))).mono ?_; rintro e w7 ⟨rfl, b7⟩; have k7 : Below W1.heap.size W1 w7 := (by refine trans9 ?_ b7; (repeat' first | assumption | exact Below.refl _ _ | exact Nat.le_refl _ | apply kp_alloc | apply kp_set | apply Below.drew | omega)))
            refine hK.out _ _ ?_ (fun hHeld => ?_)
            · first | assumption | exact Below.drew (by assumption)
            clear hK K
            try simp only [Act.put, List.setIfInBounds_toArray, List.set_cons_zero, List.set_cons_succ]
            refine tk9 32 (by assumption) ?_
            refine tk9 33 (by assumption) ?_
            refine tk9 34 (by assumption) ?_
            refine wpAnyH_ready (rs := [35]) (by kernel_rfl) (by simp) ?_
            refine AllReadyH.cons rfl (fun K hK => ?_) AllReadyH.nil
            try go_simp
            (go_at_call 110; refine (HHl.out _ (by first | assumption | exact Below.refl _ _ | (repeat' first | assumption | exact Below.refl _ _ | apply kp_alloc | apply Below.drew))).mono ?_; rintro e w8 ⟨rfl, b8⟩; have k8 : Below W1.heap.size W1 w8 := (by refine trans9 ?_ b8; (repeat' first | assumption | exact Below.refl _ _ | exact Nat.le_refl _ | apply kp_alloc | apply kp_set | apply Below.drew | omega)))
            refine hK.out _ _ ?_ (fun hHeld => ?_)
            · first | assumption | exact Below.drew (by assumption)
            clear hK K
            try simp only [Act.put, List.setIfInBounds_toArray, List.set_cons_zero, List.set_cons_succ]
            refine tk9 36 (by assumption) ?_
            refine tk9 37 (by assumption) ?_
            refine tk9 38 (by assumption) ?_
            refine wpAnyH_done (by kernel_rfl) ?_ _
            refine NoPanic.normal ?_
            go_wp2_with fail
            go_ret
            refine ⟨by first | rfl | (rw [E1.out]; rfl) | (simp; done) | (cases H <;> rfl), trans9 HB.out ?_⟩
            (repeat' first | assumption | exact Below.refl _ _ | exact Nat.le_refl _ | apply kp_alloc | apply kp_set | apply Below.drew | omega)
    · have d1 : (ro == 1) = false := by simpa using h1
      have e1 : decide (ro = 1) = false := decide_eq_false h1
      have E1 := Lib.hid e1
      clear h1 e1
      refine wp_region_noPanic ?_
      refine wp_region_held_drew (S := fun z => Below W1.heap.size W1 z) (by kernel_rfl) ?_ (fun hHeld => ?_)
      · exact Below.drew (Below.refl _ _)
      refine tk9 0 (by assumption) ?_
      refine tk9 2 (by assumption) ?_
      refine tk9 3 (by assumption) ?_
      refine wpAnyH_ready (rs := [1]) (by kernel_rfl) (by simp) ?_
      refine AllReadyH.cons rfl (fun K hK => ?_) AllReadyH.nil
      try go_simp
      (go_at_call 105; refine (HRo.out _).mono ?_; rintro e w2 ⟨⟨vr, rfl, hvr⟩, b2⟩; have k2 : Below W1.heap.size W1 w2 := (by refine trans9 ?_ b2; (repeat' first | assumption | exact Below.refl _ _ | exact Nat.le_refl _ | apply kp_alloc | apply kp_set | apply Below.drew | omega)))
      refine hK.out _ _ ?_ (fun hHeld => ?_)
      · first | assumption | exact Below.drew (by assumption)
      clear hK K
      try simp only [Act.put, List.setIfInBounds_toArray, List.set_cons_zero, List.set_cons_succ]
      refine wpAnyH_ready (rs := [4]) (by kernel_rfl) (by simp) ?_
      refine AllReadyH.cons rfl (fun K hK => ?_) AllReadyH.nil
      try go_simp
      (go_at_call 32; refine (HCn.out _ _ (by first | exact hvr | exact NoRow.below hvr (by first | assumption | exact Below.drew (Below.refl _ _)))).mono ?_; rintro e w3 ⟨rfl, rfl⟩)
      refine hK.out _ _ ?_ (fun hHeld => ?_)
      · first | assumption | exact Below.drew (by assumption)
      clear hK K
      try simp only [Act.put, List.setIfInBounds_toArray, List.set_cons_zero, List.set_cons_succ]
      refine tk9 5 (by assumption) ?_
      refine tk9 6 (by assumption) ?_
      refine tk9 7 (by assumption) ?_
      refine wpAnyH_ready (rs := [8]) (by kernel_rfl) (by simp) ?_
      refine AllReadyH.cons rfl (fun K hK => ?_) AllReadyH.nil
      try go_simp
      (go_at_call 106; refine (HLg.out _ (by first | assumption | exact Below.refl _ _ | (repeat' first | assumption | exact Below.refl _ _ | apply kp_alloc | apply Below.drew))).mono ?_; rintro e w4 ⟨rfl, b4⟩; have k4 : Below W1.heap.size W1 w4 := (by refine trans9 ?_ b4; (repeat' first | assumption | exact Below.refl _ _ | exact Nat.le_refl _ | apply kp_alloc | apply kp_set | apply Below.drew | omega)))
      refine hK.out _ _ ?_ (fun hHeld => ?_)
      · first | assumption | exact Below.drew (by assumption)
      clear hK K
      try simp only [Act.put, List.setIfInBounds_toArray, List.set_cons_zero, List.set_cons_succ]
      refine tk9 9 (by assumption) ?_
      refine tk9 10 (by assumption) ?_
      refine tk9 11 (by assumption) ?_
      refine tk9 12 (by assumption) ?_
      refine tk9 13 (by assumption) ?_
      refine tk9 14 (by assumption) ?_
      refine tk9 15 (by assumption) ?_
      refine tk9 16 (by assumption) ?_
      refine tk9 17 (by assumption) ?_
      refine tk9 18 (by assumption) ?_
      refine tk9 19 (by assumption) ?_
      refine tk9 20 (by assumption) ?_
      refine tk9 21 (by assumption) ?_ (v := undef) (hy := Or.inr ⟨by rfl, rfl⟩)
      refine tk9 22 (by assumption) ?_ (v := undef) (hy := Or.inr ⟨by rfl, rfl⟩)
      refine tk9 23 (by assumption) ?_
      refine tk9 24 (by assumption) ?_
      refine tk9 25 (by assumption) ?_ (v := undef) (hy := Or.inr ⟨by rfl, rfl⟩)
      refine tk9 26 (by assumption) ?_ (v := undef) (hy := Or.inr ⟨by rfl, rfl⟩)
      refine tk9 27 (by assumption) ?_ (v := undef) (hy := Or.inr ⟨by rfl, rfl⟩)
      refine tk9 28 (by assumption) ?_
      refine tk9 29 (by assumption) ?_
      refine tk9 30 (by assumption) ?_ (v := undef) (hy := Or.inr ⟨by rfl, rfl⟩)
      refine tk9 31 (by assumption) ?_ (v := undef) (hy := Or.inr ⟨by rfl, rfl⟩)
      refine tk9 32 (by assumption) ?_
      refine tk9 33 (by assumption) ?_
      refine tk9 34 (by assumption) ?_ (v := undef) (hy := Or.inr ⟨by rfl, rfl⟩)
      refine tk9 35 (by assumption) ?_ (v := undef) (hy := Or.inr ⟨by rfl, rfl⟩)
      refine tk9 36 (by assumption) ?_ (v := undef) (hy := Or.inr ⟨by rfl, rfl⟩)
      refine tk9 37 (by assumption) ?_
      refine tk9 38 (by assumption) ?_
      refine wpAnyH_done (by kernel_rfl) ?_ _
      refine NoPanic.normal ?_
      go_wp2_with fail
      go_ret
      refine ⟨by first | rfl | (rw [E1.out]; rfl) | (simp; done) | (cases H <;> rfl), trans9 HB.out ?_⟩
      (repeat' first | assumption | exact Below.refl _ _ | exact Nat.le_refl _ | apply kp_alloc | apply kp_set | apply Below.drew | omega)


end Go.Proofs.YtgoibhbmndpgpaaGreatDoor

/- The walks of package family's fit, Good. -/
set_option maxRecDepth 100000
set_option linter.unusedVariables false
set_option linter.unusedSimpArgs false
namespace Go.Proofs.YtgoibhbmndpgpaaGreatDoor
open Go.RowKit Dc
attribute [local go_sem ↓] Go.wp_at_zero Go.wp_at_succ

theorem shpl_below {w w' : World} (h : ShPl w) (hb : Below w.heap.size w w') : ShPl w' := ⟨h.1.below hb h.1.room, h.2.below hb⟩

set_option maxHeartbeats 8000000 in
theorem ffit_calls (kk : Int) (L : List Ps) (v : Value) (w : World) (hv : PtRow w v L) (hn : L.length ≤ 1000) (hT : ShPl w) :
    Calls Tryz.prog 72 #[.int .i64 kk, v] w fun e w' => e = .returned (.bool ((pts L).all (ptOk kk))) ∧ Below w.heap.size w w' := by
  have HP := Lib.hid hv.2
  obtain ⟨A, cap, rfl, hlc, hcm, hnil, hrow⟩ := hv.1
  unfold maxLen at hcm
  have HR := Lib.hid hrow
  have HT := Lib.hid hT
  clear hrow hnil hv hT
  go_enter Tryz.func72, Tryz.ntmps72
  go_wp2_with fail
  go_loopw [9] (fun v wr => ∃ k : Nat, k ≤ L.length ∧ v = .int .i64 (k : Nat) ∧ Hid (∀ m p, m < k → (pts L)[m]? = some p → ptOk kk p = true) ∧ Below w.heap.size w wr) (fun v _ => L.length - (intOf v).toNat)
  case atStart => exact ⟨0, Nat.zero_le _, rfl, fun m p hm => absurd hm (by omega), Below.refl _ _⟩
  case round =>
    obtain ⟨k, hk, rfl, H, hb⟩ := hrel
    by_cases hkl : k < L.length
    · obtain ⟨b, off, rfl, hbs, hc⟩ := HR.out (by omega)
      obtain ⟨x, hx, hxp⟩ := ps_get hkl
      have hix := HP.out x (List.mem_of_getElem? hx)
      obtain ⟨c0, c1, c2, c3, c4, c5, c6, c7, c8⟩ := pr_cells hc hx
      have hcp := Lib.hid (fun W (hW : Below w.heap.size w W) => pgood_calls kk x.1 x.2 W (hix.1.below hW) hix.2 (shpl_below HT.out hW).1 (shpl_below HT.out hW).2)
      have hno := Lib.hid (fun (h : ptOk kk x.2 = false) => show (pts L).all (ptOk kk) = false from List.all_eq_false.2 ⟨x.2, List.mem_of_getElem? hxp, by rw [h]; decide⟩)
      have hnx := Lib.hid (fun (h : ptOk kk x.2 = true) => show ∀ m p, m < k + 1 → (pts L)[m]? = some p → ptOk kk p = true from fun m p hm h1 => by
        by_cases em : m = k
        · subst em
          rw [hxp] at h1
          obtain rfl := Option.some.inj h1
          exact h
        · exact H.out m p (by omega) h1)
      obtain ⟨A1, n1, cap1, hx1⟩ : ∃ A1 n1 cap1, x.1 = .slice A1 n1 cap1 := by obtain ⟨_, _, h, _⟩ := hix.1; exact ⟨_, _, _, h⟩
      obtain ⟨xv, p⟩ := x
      simp only at hx1
      subst hx1
      obtain ⟨pl, ro, inf, bm, bs, m, s, td, ti⟩ := p
      have hR : ∀ o u, w.cell? ⟨b, o, none⟩ = some u → wr.cell? ⟨b, o, none⟩ = some u := fun o u hu => (hb.cell (p := ⟨b, o, none⟩) hbs).trans hu
      simp only at c0 c1 c2 c3 c4 c5 c6 c7 c8
      have r0 := hR _ _ c0
      have r1 := hR _ _ c1
      have r2 := hR _ _ c2
      have r3 := hR _ _ c3
      have r4 := hR _ _ c4
      have r5 := hR _ _ c5
      have r6 := hR _ _ c6
      have r7 := hR _ _ c7
      have r8 := hR _ _ c8
      have hk1 := Lib.hid (kp_alloc hb (.cells #[.slice A1 n1 cap1, .int .i64 ro, .bool inf, .int .i64 bm, .int .i64 bs, .int .i64 m, .int .i64 s, .bool td, .int .i64 ti] 46))
      have HB := Lib.hid hb
      simp only at hno hnx hcp
      generalize ptOk kk _ = C at *
      clear hc c0 c1 c2 c3 c4 c5 c6 c7 c8 hR hx hxp hix hbs hb
      cases C with
      | true =>
        have hr := Lib.hid (hnx.out rfl)
        clear hno hnx
        go_wp2_with fail
        refine (hcp.out _ hk1.out).mono ?_; rintro e w1 ⟨rfl, b1⟩
        have kB := trans9 hk1.out b1
        clear b1
        go_wp2_with fail
        go_roundw
        case rel => exact ⟨k + 1, hkl, by go_num, hr.out, kB⟩
        case measure => simp [intOf]; omega
      | false =>
        have hr := Lib.hid (hno.out rfl)
        clear hno hnx
        go_wp2_with fail
        refine (hcp.out _ hk1.out).mono ?_; rintro e w1 ⟨rfl, b1⟩
        have kB := trans9 hk1.out b1
        clear b1
        go_wp2_with fail
        go_ret
        exact ⟨by rw [hr.out]; rfl, kB⟩
    · have hlen : (pts L).length = L.length := by simp [pts]
      have hs := Lib.hid (show (pts L).all (ptOk kk) = true from List.all_eq_true.2 (fun p hp => by
        obtain ⟨i, hi, rfl⟩ := List.getElem_of_mem hp
        exact H.out i _ (by omega) (List.getElem?_eq_getElem hi)))
      clear H hlen
      go_wp2
      go_ret
      exact ⟨by rw [hs.out]; rfl, hb⟩

set_option maxHeartbeats 8000000 in
theorem fgood_calls (h : Hd) (L : List Ps) (v : Value) (w : World) (hv : PtRow w v L) (hn : L.length ≤ 1000) (hh : HdIn h) (hT : ShPl w) :
    Calls Tryz.prog 48 #[famv h v] w fun e w' => e = .returned (.bool (famOk h (pts L))) ∧ Below w.heap.size w w' := by
  have k0 := kp_alloc (Below.refl w.heap.size w) (.cells (famc h v) 39)
  have F0 := FamAt.new w h v 39
  have hN := Lib.hid (fun W (hW : Below w.heap.size w W) => name_calls h.n W hh.ln (shpl_below hT hW).1)
  have hK := Lib.hid (fun W => iskind_calls h.k W)
  have hU := Lib.hid (fun W (hW : Below w.heap.size w W) => value_calls h.u W hh.lu (shpl_below hT hW).1)
  have hH := Lib.hid (fun W (hW : Below w.heap.size w W) => value_calls h.h W hh.lh (shpl_below hT hW).1)
  have hF := Lib.hid (fun W (hW : Below w.heap.size w W) => ffit_calls h.k L v W (hv.below hW) hn (shpl_below hT hW))
  have hA := Lib.hid (fun W (hW : Below w.heap.size w W) => ascend_calls L v W (hv.below hW) hn)
  rw [show famOk h (pts L) = (nameOk h.n && kindOk h.k && valueOk h.u && valueOk h.h && (pts L).all (ptOk h.k) && decide (StrictP (pts L))) from rfl]
  generalize nameOk h.n = b1 at *
  generalize kindOk h.k = b2 at *
  generalize valueOk h.u = b3 at *
  generalize valueOk h.h = b4 at *
  generalize (pts L).all (ptOk h.k) = b5 at *
  generalize decide (StrictP (pts L)) = b6 at *
  obtain ⟨A, cap, hv1⟩ : ∃ A cap, v = .slice A L.length cap := by obtain ⟨A, cap, h, _⟩ := hv.1; exact ⟨A, cap, h⟩
  subst hv1
  obtain ⟨n, k, u, e⟩ := h
  generalize L.length = len at *
  have K0 := Lib.hid k0
  have HF0 := Lib.hid F0
  clear hv hh hT hn k0 F0
  go_enter Tryz.func48, Tryz.ntmps48
  cases b1 with
  | false =>
    go_wp2_with fail
    refine (hN.out _ K0.out).mono ?_; rintro e w1 ⟨rfl, c1⟩
    have K1 := Lib.hid (trans9 K0.out c1)
    have HF1 := Lib.hid (HF0.out.below c1)
    obtain ⟨x10, x11, x12, x13, x14, _, _⟩ := HF1.out
    clear c1
    go_wp2
    go_ret
    exact ⟨by simp, K1.out⟩
  | true =>
    go_wp2_with fail
    refine (hN.out _ K0.out).mono ?_; rintro e w1 ⟨rfl, c1⟩
    have K1 := Lib.hid (trans9 K0.out c1)
    have HF1 := Lib.hid (HF0.out.below c1)
    obtain ⟨x10, x11, x12, x13, x14, _, _⟩ := HF1.out
    clear c1
    cases b2 with
    | false =>
      go_wp2_with fail
      refine (hK.out _).mono ?_; rintro e w99 ⟨rfl, rfl⟩
      go_wp2
      go_ret
      exact ⟨by simp, K1.out⟩
    | true =>
      go_wp2_with fail
      refine (hK.out _).mono ?_; rintro e w99 ⟨rfl, rfl⟩
      cases b3 with
      | false =>
        go_wp2_with fail
        refine (hU.out _ K1.out).mono ?_; rintro e w2 ⟨rfl, c2⟩
        have K2 := Lib.hid (trans9 K1.out c2)
        have HF2 := Lib.hid (HF1.out.below c2)
        obtain ⟨x20, x21, x22, x23, x24, _, _⟩ := HF2.out
        clear x10 x11 x12 x13 x14
        clear c2
        go_wp2
        go_ret
        exact ⟨by simp, K2.out⟩
      | true =>
        go_wp2_with fail
        refine (hU.out _ K1.out).mono ?_; rintro e w2 ⟨rfl, c2⟩
        have K2 := Lib.hid (trans9 K1.out c2)
        have HF2 := Lib.hid (HF1.out.below c2)
        obtain ⟨x20, x21, x22, x23, x24, _, _⟩ := HF2.out
        clear x10 x11 x12 x13 x14
        clear c2
        cases b4 with
        | false =>
          go_wp2_with fail
          refine (hH.out _ K2.out).mono ?_; rintro e w3 ⟨rfl, c3⟩
          have K3 := Lib.hid (trans9 K2.out c3)
          have HF3 := Lib.hid (HF2.out.below c3)
          obtain ⟨x30, x31, x32, x33, x34, _, _⟩ := HF3.out
          clear x20 x21 x22 x23 x24
          clear c3
          go_wp2
          go_ret
          exact ⟨by simp, K3.out⟩
        | true =>
          go_wp2_with fail
          refine (hH.out _ K2.out).mono ?_; rintro e w3 ⟨rfl, c3⟩
          have K3 := Lib.hid (trans9 K2.out c3)
          have HF3 := Lib.hid (HF2.out.below c3)
          obtain ⟨x30, x31, x32, x33, x34, _, _⟩ := HF3.out
          clear x20 x21 x22 x23 x24
          clear c3
          cases b5 with
          | false =>
            go_wp2_with fail
            refine (hF.out _ K3.out).mono ?_; rintro e w4 ⟨rfl, c4⟩
            have K4 := Lib.hid (trans9 K3.out c4)
            have HF4 := Lib.hid (HF3.out.below c4)
            obtain ⟨x40, x41, x42, x43, x44, _, _⟩ := HF4.out
            clear x30 x31 x32 x33 x34
            clear c4
            go_wp2
            go_ret
            exact ⟨by simp, K4.out⟩
          | true =>
            go_wp2_with fail
            refine (hF.out _ K3.out).mono ?_; rintro e w4 ⟨rfl, c4⟩
            have K4 := Lib.hid (trans9 K3.out c4)
            have HF4 := Lib.hid (HF3.out.below c4)
            obtain ⟨x40, x41, x42, x43, x44, _, _⟩ := HF4.out
            clear x30 x31 x32 x33 x34
            clear c4
            cases b6 with
            | false =>
              go_wp2_with fail
              refine (hA.out _ K4.out).mono ?_; rintro e w5 ⟨rfl, c5⟩
              have K5 := Lib.hid (trans9 K4.out c5)
              have HF5 := Lib.hid (HF4.out.below c5)
              obtain ⟨x50, x51, x52, x53, x54, _, _⟩ := HF5.out
              clear x40 x41 x42 x43 x44
              clear c5
              go_wp2
              go_ret
              exact ⟨by simp, K5.out⟩
            | true =>
              go_wp2_with fail
              refine (hA.out _ K4.out).mono ?_; rintro e w5 ⟨rfl, c5⟩
              have K5 := Lib.hid (trans9 K4.out c5)
              have HF5 := Lib.hid (HF4.out.below c5)
              obtain ⟨x50, x51, x52, x53, x54, _, _⟩ := HF5.out
              clear x40 x41 x42 x43 x44
              clear c5
              go_wp2
              go_ret
              exact ⟨rfl, K5.out⟩

end Go.Proofs.YtgoibhbmndpgpaaGreatDoor
