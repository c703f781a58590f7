/- The walk of the law MergeLater. -/
import Derived.Test.YtjeefgamkoeiaaaGreatDoorMrgV
import Derived.Test.YtjeefgamkoeiaaaGreatDoorMrgK
import Derived.Test.YtjeefgamkoeiaaaGreatDoorRefMrgA
import Derived.Test.YtjeefgamkoeiaaaGreatDoorBatW
import Derived.Test.YtjeefgamkoeiaaaGreatDoorRefBatW
set_option maxRecDepth 100000
set_option linter.unusedVariables false
set_option linter.unusedSimpArgs false
namespace Go.Proofs.YtjeefgamkoeiaaaGreatDoor
open Go.RowKit Go.Sort Dc
attribute [local go_sem ↓] Go.wp_at_zero Go.wp_at_succ

set_option maxHeartbeats 64000000 in
theorem later_walk (l : List Bs) (v : Value) (w : World) (hv : BtRow w v l) (hT : ShPl w) :
    Calls Tryz.prog 6 #[v] w fun e w' => e = .returned (.bool true) ∧ Below w.heap.size w w' := by
  have HV := Lib.hid hv
  have HP := Lib.hid hv.2
  have HT := Lib.hid (fun W (hW : Below w.heap.size w W) => shpl_below hT hW)
  have hT0 := Lib.hid (mknown_calls w hT)
  obtain ⟨A, cap, rfl, hlc, hcm, hnil, hrow⟩ := hv.1
  unfold maxLen at hcm
  have HR := Lib.hid hrow
  clear hrow hnil hv hT
  go_enter Tryz.func6, Tryz.ntmps6
  go_wp2_with fail
  refine hT0.out.mono ?_; rintro e w1 ⟨rfl, b1⟩
  have K1 := Lib.hid b1
  clear b1 hT0
  by_cases h4 : (4 : Int) < (l.length : Int)
  · have d4 : decide ((4 : Int) < (l.length : Int)) = true := decide_eq_true h4
    have d4' : decide (4 < l.length) = true := by simp; omega
    go_wp2
    go_ret
    exact ⟨rfl, K1.out⟩
  have d4 : decide ((4 : Int) < (l.length : Int)) = false := decide_eq_false h4
  have d4' : decide (4 < l.length) = false := by simp; omega
  have hl4 : l.length ≤ 4 := by omega
  clear h4
  go_wp2_with fail
  go_loopw [3] (fun s wr => ∃ k : Nat, k ≤ l.length ∧ s = .int .i64 (k : Nat) ∧ Hid (∀ (i : Nat) (x : Bs), i < k → l[i]? = some x → FmFew x.F) ∧ Below w.heap.size w wr) (fun s _ => l.length - (intOf s).toNat)
  case atStart => exact ⟨0, Nat.zero_le _, rfl, Lib.hid (fun i x h => absurd h (by omega)), K1.out⟩
  case round =>
    clear K1
    obtain ⟨k, hk, rfl, H, hb⟩ := hrel
    by_cases hkl : k < l.length
    · obtain ⟨b, off, rfl, hbs, hc⟩ := HR.out (by omega)
      obtain ⟨x, hx, hxp⟩ := bs_get hkl
      have hix := HP.out x (List.mem_of_getElem? hx)
      obtain ⟨c0, c1⟩ := br_cells hc hx
      have r0 := (hb.cell (p := ⟨b, off + k * 2, none⟩) hbs).trans c0
      have r1 := (hb.cell (p := ⟨b, off + k * 2 + 1, none⟩) hbs).trans c1
      have hwc := Lib.hid (wide_calls x.t x.F x.v wr (hix.1.below hb))
      obtain ⟨A2, cap2, hxv⟩ := bat_one hix.1
      have HX := Lib.hid hx
      have HB := Lib.hid hb
      rw [hxv] at r1 hwc
      clear hc c0 c1 hx hxp hix hbs hb
      go_wp2_with fail
      refine hwc.out.mono ?_; rintro e w2 ⟨hW, b2⟩
      have K2 := Lib.hid (trans9 HB.out b2)
      clear b2 r0 r1
      rcases hW.ways with rfl | ⟨rfl, hfew⟩
      · go_wp2
        go_ret
        exact ⟨rfl, K2.out⟩
      have hr : Hid (∀ (i : Nat) (z : Bs), i < k + 1 → l[i]? = some z → FmFew z.F) := Lib.hid (fun i z hi hz => by
        by_cases e : i = k
        · subst e; rw [HX.out] at hz; obtain rfl := Option.some.inj hz; exact hfew
        · exact H.out i z (by omega) hz)
      clear hfew hW
      go_wp2_with fail
      go_roundw
      case rel => exact ⟨k + 1, hkl, by go_num, hr, K2.out⟩
      case measure => simp [intOf]; omega
    · have HBF : Hid (BtFew l) := Lib.hid ⟨by omega, fun x hx => by
        obtain ⟨i, hi, rfl⟩ := List.getElem_of_mem hx
        exact H.out i _ (by omega) (List.getElem?_eq_getElem hi)⟩
      have HB := Lib.hid hb
      clear H hb
      obtain ⟨L, hL⟩ : ∃ L, L = bps l := ⟨_, rfl⟩
      have HL := Lib.hid hL
      clear hL
      have HM := Lib.hid (k_merge L l _ wr (HV.out.below HB.out) HBF.out HL.out.symm (HT.out wr HB.out))
      go_wp2_with fail
      refine HM.out.mono ?_; rintro e w3 ⟨⟨Am, nm_, cm, M, rfl, hrm, hm⟩, b3⟩
      have K3 := Lib.hid (trans9 HB.out b3)
      have RM3 := Lib.hid hrm
      have HMM := Lib.hid hm
      clear b3 hrm hm HM HB
      go_upto_region 11 with fail
      obtain ⟨W4, hW4⟩ : ∃ X, X = w3.alloc (.cells #[.string (str (mT L)), .slice Am nm_ cm] 28) := ⟨_, rfl⟩
      have hb4 : Below w3.heap.size w3 W4 := by rw [hW4]; exact (Below.refl _ _).alloc (Nat.le_refl _) _
      have K4 := Lib.hid (trans9 K3.out hb4)
      have RM := Lib.hid (RM3.out.below hb4)
      have BM : Hid (BatAt W4 w3.heap.size (mT L) (.slice Am nm_ cm)) := Lib.hid (by rw [hW4]; exact BatAt.new w3 _ _ _)
      rw [← hW4]
      clear hW4 hb4 K3 RM3
      generalize w3.heap.size = qm at *
      by_cases he : mErr L = 0
      · have de : (mErr L == 0) = true := by simpa using he
        have de2 : (mErr L != 0) = false := by simpa using he
        have hmf : Hid (fms M = allF (flat L)) := Lib.hid (by rw [HMM.out, mF_good he])
        have HFM : Hid (FmFew M) := Lib.hid (FpFew.rows (by rw [HMM.out]; exact mF_few2 _))
        have hAO : Hid (AllOk L) := Lib.hid (by
          by_cases h0 : L = []
          · rw [h0]; exact ⟨fun b hb => (by cases hb), fun x hx => (by simp [flat] at hx)⟩
          · exact AllOk.of ((mErr_zero h0).1 he).1)
        have hLL : Hid (L.length = l.length) := Lib.hid (by rw [HL.out, List.length_map])
        have hnp : Hid (∀ x ∈ allF (flat L), StrictP x.2) := Lib.hid (by have h := hAO.out.strict L.length; rwa [List.take_length] at h)
        obtain ⟨Am', cm', hsl, hmlc, hmcm, _, hmrow⟩ := RM.out.1
        cases hsl
        unfold maxLen at hmcm
        have HMR := Lib.hid hmrow
        have HMP := Lib.hid RM.out.2
        clear hmrow he
        have hz1 : Hid (∀ z, Below W4.heap.size W4 z → z.cell? ⟨qm, 0, none⟩ = some (.string (str (mT L)))) := Lib.hid (fun z hz => (hz.cell (p := ⟨qm, 0, none⟩) BM.out.lt).trans BM.out.c0)
        have hz2 : Hid (∀ z, Below W4.heap.size W4 z → z.cell? ⟨qm, 1, none⟩ = some (.slice Am M.length cm)) := Lib.hid (fun z hz => (hz.cell (p := ⟨qm, 1, none⟩) BM.out.lt).trans BM.out.c1)
        have hMn : M.length ≤ 1000 := HFM.out.n
        have hmax : Hid (∀ i, nPts ((fms M).take i) ≤ 1000000) := Lib.hid (fun i => npts_take_le i HFM.out.plain)
        go_upto_region 14 with fail
        clear de de2
        go_wp2_with fail
        go_loopw [7, 6] (fun s f wr => ∃ i : Nat, i ≤ M.length ∧ s = .int .i64 (i : Nat) ∧ f = .int .i64 (nPts ((fms M).take i) : Nat) ∧ Hid (Below W4.heap.size W4 wr)) (fun s _ _ => M.length - (intOf s).toNat)
        case atStart => exact ⟨0, Nat.zero_le _, rfl, rfl, Lib.hid (Below.refl _ _)⟩
        case round =>
          obtain ⟨i, hi, rfl, rfl, HB⟩ := hrel
          have x1 := hz2.out _ HB.out
          by_cases hil : i < M.length
          · obtain ⟨bM, oM, rfl, hbM, hc⟩ := HMR.out (by omega)
            obtain ⟨x, hx, hxp⟩ := fs_get hil
            have hxm := List.mem_of_getElem? hx
            have hix := HMP.out x hxm
            obtain ⟨c0, _, _, _, c4⟩ := fr_cells hc hx
            have HC0 : Hid (∀ z, Below W4.heap.size W4 z → z.cell? ⟨bM, oM + i * 5, none⟩ = some (.string (str x.hd.n))) := Lib.hid (fun z hz => (hz.cell (p := ⟨bM, oM + i * 5, none⟩) hbM).trans c0)
            have HC4 : Hid (∀ z, Below W4.heap.size W4 z → z.cell? ⟨bM, oM + i * 5 + 4, none⟩ = some x.v) := Lib.hid (fun z hz => (hz.cell (p := ⟨bM, oM + i * 5 + 4, none⟩) hbM).trans c4)
            have HXF : Hid (fm x ∈ allF (flat L)) := Lib.hid (by rw [← hmf.out]; exact List.mem_of_getElem? hxp)
            have hlx := HFM.out.p x hxm
            have HPX := Lib.hid hix.1.2
            have hst := Lib.hid (nPts_step hxp)
            have hmx := hmax.out i
            obtain ⟨A3, cap3, hxv, hlc3, hcm3, _, hrow3⟩ := hix.1.1
            unfold maxLen at hcm3
            have HR3 := Lib.hid hrow3
            rw [hxv] at HC4
            have hi1 : (i : Int) < (M.length : Int) := by omega
            have hi2 : (0 : Int) ≤ (i : Int) := by omega
            have hHN := Lib.hid hix.2.ln
            clear hc c0 c4 hx hxp hxm hix hrow3
            obtain ⟨⟨xn, xk, xu, xh⟩, xv, xL⟩ := x
            simp only [fm] at HXF hst hxv HC0 HPX HR3 hlc3 hlx HC4 hHN
            clear hxv
            rw [show (pts xL).length = xL.length by simp [pts]] at hst
            generalize nPts ((fms M).take i) = q0 at *
            go_wp2_with fail
            go_loopw [8, 6] (fun s f wr => ∃ k : Nat, k ≤ xL.length ∧ s = .int .i64 (k : Nat) ∧ f = .int .i64 ((q0 + k : Nat) : Int) ∧ Hid (Below W4.heap.size W4 wr)) (fun s _ _ => xL.length - (intOf s).toNat)
            case atStart => exact ⟨0, Nat.zero_le _, rfl, rfl, HB⟩
            case round =>
              clear HB x1
              obtain ⟨k, hk, rfl, rfl, HB⟩ := hrel
              have x1 := hz2.out _ HB.out
              have r4 := HC4.out _ HB.out
              by_cases hkl : k < xL.length
              · obtain ⟨b3, off3, rfl, hbs3, hc3⟩ := HR3.out (by omega)
                obtain ⟨z, hz, hzp⟩ := ps_get hkl
                have hiz := HPX.out z (List.mem_of_getElem? hz)
                have HZM : Hid (z.2 ∈ pts xL) := Lib.hid (List.mem_of_getElem? hzp)
                obtain ⟨e0, e1, e2, e3, e4, e5, e6, e7, e8⟩ := pr_cells hc3 hz
                obtain ⟨A1, n1, cap1, hz1⟩ : ∃ A1 n1 cap1, z.1 = .slice A1 n1 cap1 := by obtain ⟨_, _, h, _⟩ := hiz.1; exact ⟨_, _, _, h⟩
                obtain ⟨zv, p⟩ := z
                simp only at hz1
                subst hz1
                obtain ⟨P, hP⟩ : ∃ q, q = p := ⟨_, rfl⟩
                simp only at e0 e1 e2 e3 e4 e5 e6 e7 e8 HZM
                rw [← hP] at HZM
                have HSELF : Hid (ptLook (allF (flat L)) xn P = some P) := Lib.hid (ptLook_self (allF_strict _) hnp.out HXF.out HZM.out)
                obtain ⟨pl, ro, inf, bm, bs, m, s, td, ti⟩ := p
                have HPC : Hid (∀ (y : Bs), y ∈ l → ∀ W, Below W4.heap.size W4 W → Calls Tryz.prog 19 #[batv y.t y.v, .string (str xn), ptv (.slice A1 n1 cap1) ⟨pl, ro, inf, bm, bs, m, s, td, ti⟩] W fun e w' => HpRes (ptLook (fms y.F) xn P) e w' ∧ Below W.heap.size W w') := Lib.hid (fun y hy W hW => by
                  rw [hP]
                  exact hpoint_calls y.t y.F y.v xn (.slice A1 n1 cap1, ⟨pl, ro, inf, bm, bs, m, s, td, ti⟩) W ((HP.out y hy).1.below (trans9 K4.out hW)) (HBF.out.f y hy) ⟨hiz.1.below hW, hiz.2⟩)
                have HSP : Hid (∀ W, Below W4.heap.size W4 W → ∀ A5 n5 c5 (q5 : Pt), LbRow W (.slice A5 n5 c5) q5.l → PtIn q5 → q5 = P → Calls Tryz.prog 20 #[ptv (.slice A1 n1 cap1) ⟨pl, ro, inf, bm, bs, m, s, td, ti⟩, ptv (.slice A5 n5 c5) q5] W fun e w' => e = .returned (.bool true) ∧ Below W.heap.size W w') := Lib.hid (fun W hW A5 n5 c5 q5 hl5 hi5 hq5 => by
                  have h := rsamepoints_calls (.slice A1 n1 cap1) (.slice A5 n5 c5) ⟨pl, ro, inf, bm, bs, m, s, td, ti⟩ q5 W (hiz.1.below hW) hl5 hiz.2 hi5
                  rw [hq5, hP, sameP_refl] at h
                  rw [hq5, hP]
                  exact h)
                clear hP
                have g0 := (HB.out.cell (p := ⟨b3, off3 + k * 9, none⟩) hbs3).trans e0
                have g1 := (HB.out.cell (p := ⟨b3, off3 + k * 9 + 1, none⟩) hbs3).trans e1
                have g2 := (HB.out.cell (p := ⟨b3, off3 + k * 9 + 2, none⟩) hbs3).trans e2
                have g3 := (HB.out.cell (p := ⟨b3, off3 + k * 9 + 3, none⟩) hbs3).trans e3
                have g4 := (HB.out.cell (p := ⟨b3, off3 + k * 9 + 4, none⟩) hbs3).trans e4
                have g5 := (HB.out.cell (p := ⟨b3, off3 + k * 9 + 5, none⟩) hbs3).trans e5
                have g6 := (HB.out.cell (p := ⟨b3, off3 + k * 9 + 6, none⟩) hbs3).trans e6
                have g7 := (HB.out.cell (p := ⟨b3, off3 + k * 9 + 7, none⟩) hbs3).trans e7
                have g8 := (HB.out.cell (p := ⟨b3, off3 + k * 9 + 8, none⟩) hbs3).trans e8
                have hk1 : (k : Int) < (xL.length : Int) := by omega
                have hk2 : (0 : Int) ≤ (k : Int) := by omega
                clear hc3 e0 e1 e2 e3 e4 e5 e6 e7 e8 hz hzp hiz
                go_upto_region 23 with fail
                obtain ⟨W5, hW5⟩ : ∃ X, X = (wr.alloc (.cells #[.slice A1 n1 cap1, .int .i64 ro, .bool inf, .int .i64 bm, .int .i64 bs, .int .i64 m, .int .i64 s, .bool td, .int .i64 ti] 53)).alloc (.cells #[.slice none 0 0, .int .i64 0, .bool false, .int .i64 0, .int .i64 0, .int .i64 0, .int .i64 0, .bool false, .int .i64 0] 53) := ⟨_, rfl⟩
                have K5 : Hid (Below W4.heap.size W4 W5) := Lib.hid (by rw [hW5]; exact kp_alloc (kp_alloc HB.out _) _)
                have PA : Hid (PtAt W5 wr.heap.size (.slice A1 n1 cap1) ⟨pl, ro, inf, bm, bs, m, s, td, ti⟩) := Lib.hid (by rw [hW5]; exact (PtAt.new wr (.slice A1 n1 cap1) ⟨pl, ro, inf, bm, bs, m, s, td, ti⟩ 53).alloc _)
                have QA : Hid (PtAt W5 (wr.heap.size + 1) (.slice none 0 0) pt0) := Lib.hid (by
                  have h := PtAt.new (wr.alloc (.cells #[.slice A1 n1 cap1, .int .i64 ro, .bool inf, .int .i64 bm, .int .i64 bs, .int .i64 m, .int .i64 s, .bool td, .int .i64 ti] 53)) (.slice none 0 0) pt0 53
                  rw [show (wr.alloc (.cells #[.slice A1 n1 cap1, .int .i64 ro, .bool inf, .int .i64 bm, .int .i64 bs, .int .i64 m, .int .i64 s, .bool td, .int .i64 ti] 53)).heap.size = wr.heap.size + 1 by simp] at h
                  rw [hW5]; exact h)
                have hpw : W4.heap.size ≤ wr.heap.size := HB.out.size
                rw [← hW5]
                clear hW5 g0 g1 g2 g3 g4 g5 g6 g7 g8 x1 r4 HB
                generalize wr.heap.size = pb at *
                go_wp2_with fail
                go_loopw [12, 11] (fun s12 s11 wr => ∃ (j : Nat) (A5 : Option Addr) (n5 c5 : Nat) (q5 : Pt), j ≤ l.length ∧ s12 = .int .i64 (j : Nat) ∧ s11 = .bool (ptLook (allF (flat (L.take j))) xn P).isSome ∧ Hid (PtAt wr pb (.slice A1 n1 cap1) ⟨pl, ro, inf, bm, bs, m, s, td, ti⟩) ∧ Hid (PtAt wr (pb + 1) (.slice A5 n5 c5) q5) ∧ Hid (LbRow wr (.slice A5 n5 c5) q5.l) ∧ Hid (PtIn q5) ∧ Hid (q5 = (ptLook (allF (flat (L.take j))) xn P).getD pt0) ∧ Hid (Below W4.heap.size W4 wr)) (fun s12 _ _ => l.length - (intOf s12).toNat)
                case atStart => exact ⟨0, none, 0, 0, pt0, Nat.zero_le _, rfl, rfl, PA, QA, Lib.hid (lb_nil _), Lib.hid pt0_in, Lib.hid rfl, K5⟩
                case round =>
                  clear PA QA K5
                  obtain ⟨j, A5, n5, c5, q5, hj, rfl, rfl, PA, QA, LB, QI, QE, HB⟩ := hrel
                  by_cases hjl : j < l.length
                  · obtain ⟨b, off, rfl, hbs, hc⟩ := HR.out (by omega)
                    obtain ⟨y, hy, hyp⟩ := bs_get hjl
                    have hym := List.mem_of_getElem? hy
                    have hiy := HP.out y hym
                    obtain ⟨c0, c1⟩ := br_cells hc hy
                    obtain ⟨A2, cap2, hyv⟩ := bat_one hiy.1
                    have hpc := Lib.hid (fun W (hW : Below wr.heap.size wr W) => HPC.out y hym W (trans9 HB.out hW))
                    have hst := Lib.hid (hAO.out.step (k := j) (b := bp y) (by rw [HL.out]; exact hyp) xn P)
                    rw [hyv] at c1 hpc
                    have hR : ∀ o u, w.cell? ⟨b, o, none⟩ = some u → ∀ z, Below wr.heap.size wr z → z.cell? ⟨b, o, none⟩ = some u := fun o u hu z hz => ((trans9 (trans9 K4.out HB.out) hz).cell (p := ⟨b, o, none⟩) hbs).trans hu
                    have l0 := Lib.hid (hR _ _ c0)
                    have l1 := Lib.hid (hR _ _ c1)
                    have m1 := Lib.hid (fun z (hz : Below wr.heap.size wr z) => hz2.out z (trans9 HB.out hz))
                    have n0 := Lib.hid (fun z (hz : Below wr.heap.size wr z) => HC0.out z (trans9 HB.out hz))
                    have hj1 : (j : Int) < (l.length : Int) := by omega
                    have hj2 : (0 : Int) ≤ (j : Int) := by omega
                    clear hc c0 c1 hR hy hyp hym hiy
                    obtain ⟨t, yv, yF⟩ := y
                    simp only [bp] at hyv l0 hpc hst
                    subst hyv
                    generalize ptLook (fms yF) xn P = OY at *
                    have hpq : pb + 1 < wr.heap.size := QA.out.lt
                    go_wp2_with fail
                    go_cut [13, 14] from 87 to 103 (fun s13 s14 wx => ∃ (xb : Nat) (A6 : Option Addr) (n6 c6 : Nat) (q6 : Pt), s13 = .pointer (some ⟨xb, 0, none⟩) ∧ s14 = .bool OY.isSome ∧ Hid (PtAt wx xb (.slice A6 n6 c6) q6) ∧ Hid (LbRow wx (.slice A6 n6 c6) q6.l) ∧ Hid (PtIn q6) ∧ Hid (q6 = OY.getD pt0) ∧ Hid (wr.heap.size ≤ xb) ∧ Hid (Below wr.heap.size wr wx))
                    case first =>
                      refine wp_region_noPanic ?_
                      refine wp_region_held_drew (S := fun X => Below wr.heap.size wr X) (by kernel_rfl) ?_ (fun hHeld => ?_)
                      · exact Below.drew (Below.refl _ _)
                      have kB : Below wr.heap.size wr wr.drew := Below.drew (Below.refl _ _)
                      refine wpAnyH_take (i := 0) (v := ?_) (by simp only [List.getElem?_toArray, List.getElem?_cons_succ, List.getElem?_cons_zero]; rfl) (by kernel_rfl) (by kernel_rfl) (by kernel_rfl) (fun _ _ _ h => h) (Or.inl ⟨by rfl, ?_⟩) (by assumption) ?_
                      rotate_left
                      · intro x hSw; (try dsimp only at hSw); first | (go_simp; done) | (go_simp; with_reducible rfl)
                      (try simp only [Act.put, List.setIfInBounds_toArray, List.set_cons_zero, List.set_cons_succ])
                      refine wpAnyH_take (i := 1) (v := ?_) (by simp only [List.getElem?_toArray, List.getElem?_cons_succ, List.getElem?_cons_zero]; rfl) (by kernel_rfl) (by kernel_rfl) (by kernel_rfl) (fun _ _ _ h => h) (Or.inl ⟨by rfl, ?_⟩) (by assumption) ?_
                      rotate_left
                      · intro x hSw; (try dsimp only at hSw); first | (go_simp; done) | (go_simp; with_reducible rfl)
                      (try simp only [Act.put, List.setIfInBounds_toArray, List.set_cons_zero, List.set_cons_succ])
                      refine wpAnyH_take (i := 2) (v := ?_) (by simp only [List.getElem?_toArray, List.getElem?_cons_succ, List.getElem?_cons_zero]; rfl) (by kernel_rfl) (by kernel_rfl) (by kernel_rfl) (fun _ _ _ h => h) (Or.inl ⟨by rfl, ?_⟩) (by assumption) ?_
                      rotate_left
                      · intro x hSw; (try dsimp only at hSw); first | (go_simp; done) | (go_simp; with_reducible rfl)
                      (try simp only [Act.put, List.setIfInBounds_toArray, List.set_cons_zero, List.set_cons_succ])
                      refine wpAnyH_take (i := 3) (v := ?_) (by simp only [List.getElem?_toArray, List.getElem?_cons_succ, List.getElem?_cons_zero]; rfl) (by kernel_rfl) (by kernel_rfl) (by kernel_rfl) (fun _ _ _ h => h) (Or.inl ⟨by rfl, ?_⟩) (by assumption) ?_
                      rotate_left
                      · intro x hSw; (try dsimp only at hSw); have l0x := l0.out x hSw; have l1x := l1.out x hSw; first | (go_simp; done) | (go_simp; with_reducible rfl)
                      (try simp only [Act.put, List.setIfInBounds_toArray, List.set_cons_zero, List.set_cons_succ])
                      refine wpAnyH_take (i := 4) (v := ?_) (by simp only [List.getElem?_toArray, List.getElem?_cons_succ, List.getElem?_cons_zero]; rfl) (by kernel_rfl) (by kernel_rfl) (by kernel_rfl) (fun _ _ _ h => h) (Or.inl ⟨by rfl, ?_⟩) (by assumption) ?_
                      rotate_left
                      · intro x hSw; (try dsimp only at hSw); first | (go_simp; done) | (go_simp; with_reducible rfl)
                      (try simp only [Act.put, List.setIfInBounds_toArray, List.set_cons_zero, List.set_cons_succ])
                      refine wpAnyH_take (i := 5) (v := ?_) (by simp only [List.getElem?_toArray, List.getElem?_cons_succ, List.getElem?_cons_zero]; rfl) (by kernel_rfl) (by kernel_rfl) (by kernel_rfl) (fun _ _ _ h => h) (Or.inl ⟨by rfl, ?_⟩) (by assumption) ?_
                      rotate_left
                      · intro x hSw; (try dsimp only at hSw); have m1x := m1.out x hSw; first | (go_simp; done) | (go_simp; with_reducible rfl)
                      (try simp only [Act.put, List.setIfInBounds_toArray, List.set_cons_zero, List.set_cons_succ])
                      refine wpAnyH_take (i := 6) (v := ?_) (by simp only [List.getElem?_toArray, List.getElem?_cons_succ, List.getElem?_cons_zero]; rfl) (by kernel_rfl) (by kernel_rfl) (by kernel_rfl) (fun _ _ _ h => h) (Or.inl ⟨by rfl, ?_⟩) (by assumption) ?_
                      rotate_left
                      · intro x hSw; (try dsimp only at hSw); first | (go_simp; done) | (go_simp; with_reducible rfl)
                      (try simp only [Act.put, List.setIfInBounds_toArray, List.set_cons_zero, List.set_cons_succ])
                      refine wpAnyH_take (i := 7) (v := ?_) (by simp only [List.getElem?_toArray, List.getElem?_cons_succ, List.getElem?_cons_zero]; rfl) (by kernel_rfl) (by kernel_rfl) (by kernel_rfl) (fun _ _ _ h => h) (Or.inl ⟨by rfl, ?_⟩) (by assumption) ?_
                      rotate_left
                      · intro x hSw; (try dsimp only at hSw); first | (go_simp; done) | (go_simp; with_reducible rfl)
                      (try simp only [Act.put, List.setIfInBounds_toArray, List.set_cons_zero, List.set_cons_succ])
                      refine wpAnyH_take (i := 8) (v := ?_) (by simp only [List.getElem?_toArray, List.getElem?_cons_succ, List.getElem?_cons_zero]; rfl) (by kernel_rfl) (by kernel_rfl) (by kernel_rfl) (fun _ _ _ h => h) (Or.inl ⟨by rfl, ?_⟩) (by assumption) ?_
                      rotate_left
                      · intro x hSw; (try dsimp only at hSw); first | (go_simp; done) | (go_simp; with_reducible rfl)
                      (try simp only [Act.put, List.setIfInBounds_toArray, List.set_cons_zero, List.set_cons_succ])
                      refine wpAnyH_take (i := 9) (v := ?_) (by simp only [List.getElem?_toArray, List.getElem?_cons_succ, List.getElem?_cons_zero]; rfl) (by kernel_rfl) (by kernel_rfl) (by kernel_rfl) (fun _ _ _ h => h) (Or.inl ⟨by rfl, ?_⟩) (by assumption) ?_
                      rotate_left
                      · intro x hSw; (try dsimp only at hSw); first | (go_simp; done) | (go_simp; with_reducible rfl)
                      (try simp only [Act.put, List.setIfInBounds_toArray, List.set_cons_zero, List.set_cons_succ])
                      refine wpAnyH_take (i := 10) (v := ?_) (by simp only [List.getElem?_toArray, List.getElem?_cons_succ, List.getElem?_cons_zero]; rfl) (by kernel_rfl) (by kernel_rfl) (by kernel_rfl) (fun _ _ _ h => h) (Or.inl ⟨by rfl, ?_⟩) (by assumption) ?_
                      rotate_left
                      · intro x hSw; (try dsimp only at hSw); have n0x := n0.out x hSw; first | (go_simp; done) | (go_simp; with_reducible rfl)
                      (try simp only [Act.put, List.setIfInBounds_toArray, List.set_cons_zero, List.set_cons_succ])
                      refine wpAnyH_take (i := 11) (v := ?_) (by simp only [List.getElem?_toArray, List.getElem?_cons_succ, List.getElem?_cons_zero]; rfl) (by kernel_rfl) (by kernel_rfl) (by kernel_rfl) (fun _ _ _ h => h) (Or.inl ⟨by rfl, ?_⟩) (by assumption) ?_
                      rotate_left
                      · intro x hSw; (try dsimp only at hSw); have pz := PA.out.below hSw; have p0x := pz.c0; have p1x := pz.c1; have p2x := pz.c2; have p3x := pz.c3; have p4x := pz.c4; have p5x := pz.c5; have p6x := pz.c6; have p7x := pz.c7; have p8x := pz.c8; first | (go_simp; done) | (go_simp; with_reducible rfl)
                      (try simp only [Act.put, List.setIfInBounds_toArray, List.set_cons_zero, List.set_cons_succ])
                      refine wpAnyH_ready (rs := [12, 16]) (by kernel_rfl) (by simp) ?_
                      refine AllReadyH.cons (by simp only [List.getElem?_toArray, List.getElem?_cons_succ, List.getElem?_cons_zero]; rfl) (fun K hK => ?_) ?_
                      · try go_simp
                        refine (hpc.out _ kB).mono ?_; rintro e w5 ⟨⟨A6, n6, c6, q6, rfl, lb6, in6, eq6⟩, b5⟩
                        replace kB := trans9 kB b5
                        replace in6 := Lib.hid in6
                        replace eq6 := Lib.hid eq6
                        clear b5
                        try go_wp2_with fail
                        refine hK.out _ _ (by assumption) (fun hHeld => ?_)
                        clear hK K
                        (try simp only [Act.put, List.setIfInBounds_toArray, List.set_cons_zero, List.set_cons_succ])
                        refine wpAnyH_take (i := 13) (v := ?_) (by simp only [List.getElem?_toArray, List.getElem?_cons_succ, List.getElem?_cons_zero]; rfl) (by kernel_rfl) (by kernel_rfl) (by kernel_rfl) (fun _ _ _ h => h) (Or.inl ⟨by rfl, ?_⟩) (by assumption) ?_
                        rotate_left
                        · intro x hSw; (try dsimp only at hSw); first | (go_simp; done) | (go_simp; with_reducible rfl)
                        (try simp only [Act.put, List.setIfInBounds_toArray, List.set_cons_zero, List.set_cons_succ])
                        refine wpAnyH_take (i := 14) (v := ?_) (by simp only [List.getElem?_toArray, List.getElem?_cons_succ, List.getElem?_cons_zero]; rfl) (by kernel_rfl) (by kernel_rfl) (by kernel_rfl) (fun _ _ _ h => h) (Or.inl ⟨by rfl, ?_⟩) (by assumption) ?_
                        rotate_left
                        · intro x hSw; (try dsimp only at hSw); first | (go_simp; done) | (go_simp; with_reducible rfl)
                        (try simp only [Act.put, List.setIfInBounds_toArray, List.set_cons_zero, List.set_cons_succ])
                        refine wpAnyH_take (i := 15) (v := ?_) (by simp only [List.getElem?_toArray, List.getElem?_cons_succ, List.getElem?_cons_zero]; rfl) (by kernel_rfl) (by kernel_rfl) (by kernel_rfl) (fun _ _ _ h => h) (Or.inl ⟨by rfl, ?_⟩) (by assumption) ?_
                        rotate_left
                        · intro x hSw; (try dsimp only at hSw); first | (go_simp; done) | (go_simp; with_reducible rfl)
                        (try simp only [Act.put, List.setIfInBounds_toArray, List.set_cons_zero, List.set_cons_succ])
                        refine wpAnyH_ready (rs := [16]) (by kernel_rfl) (by simp) ?_
                        refine AllReadyH.cons (by simp only [List.getElem?_toArray, List.getElem?_cons_succ, List.getElem?_cons_zero]; rfl) (fun K hK => ?_) AllReadyH.nil
                        go_simp
                        have kN : PtAt ((w5.alloc (.cells #[.slice none 0 0, .int .i64 0, .bool false, .int .i64 0, .int .i64 0, .int .i64 0, .int .i64 0, .bool false, .int .i64 0] 53))) w5.heap.size (.slice none 0 0) pt0 := (PtAt.new w5 (.slice none 0 0) pt0 53)
                        have hge : Hid (wr.heap.size ≤ w5.heap.size) := Lib.hid kB.size
                        replace lb6 := lb6.below ((Below.refl _ _).alloc (Nat.le_refl _) (.cells #[.slice none 0 0, .int .i64 0, .bool false, .int .i64 0, .int .i64 0, .int .i64 0, .int .i64 0, .bool false, .int .i64 0] 53))
                        replace kB : Below wr.heap.size wr ((w5.alloc (.cells #[.slice none 0 0, .int .i64 0, .bool false, .int .i64 0, .int .i64 0, .int .i64 0, .int .i64 0, .bool false, .int .i64 0] 53))) := kp_alloc kB _
                        clear hHeld
                        obtain ⟨W6, hW6⟩ : ∃ X, X = (w5.alloc (.cells #[.slice none 0 0, .int .i64 0, .bool false, .int .i64 0, .int .i64 0, .int .i64 0, .int .i64 0, .bool false, .int .i64 0] 53)) := ⟨_, rfl⟩
                        rw [← hW6] at kB kN lb6 ⊢
                        clear hW6
                        obtain ⟨xb, hxb⟩ : ∃ X, X = w5.heap.size := ⟨_, rfl⟩
                        rw [← hxb] at kN hge ⊢
                        clear hxb
                        refine hK.out _ _ (by assumption) (fun hHeld => ?_)
                        clear hK K
                        (try simp only [Act.put, List.setIfInBounds_toArray, List.set_cons_zero, List.set_cons_succ])
                        refine wpAnyH_ready (rs := [17]) (by kernel_rfl) (by simp) ?_
                        refine ready_store_pt (by simp only [List.getElem?_toArray, List.getElem?_cons_succ, List.getElem?_cons_zero]; rfl) (by rfl) (.tmp 13) (.tmp 101) (by rfl) xb _ _ A6 n6 c6 q6 (by rfl) (by rfl) kN ?_ (fun hHeld => ?_)
                        · exact below_set9 kB hge.out
                        replace kB := below_set9 (u := .slice A6 n6 c6) (q := q6) kB hge.out
                        replace lb6 := LbRow.set9 (u := .slice A6 n6 c6) (q := q6) lb6 rfl kN
                        replace kN := PtAt.set9 (lv := .slice A6 n6 c6) (p := q6) kN
                        clear hHeld
                        obtain ⟨W7, hW7⟩ : ∃ X, X = set9 W6 xb (.slice A6 n6 c6) q6 := ⟨_, rfl⟩
                        rw [← hW7] at kB kN lb6 ⊢
                        clear hW7
                        (try simp only [Act.put, List.setIfInBounds_toArray, List.set_cons_zero, List.set_cons_succ])
                        refine wpAnyH_take (i := 18) (v := ?_) (by simp only [List.getElem?_toArray, List.getElem?_cons_succ, List.getElem?_cons_zero]; rfl) (by kernel_rfl) (by kernel_rfl) (by kernel_rfl) (fun _ _ _ h => h) (Or.inl ⟨by rfl, ?_⟩) (by assumption) ?_
                        rotate_left
                        · intro x hSw; (try dsimp only at hSw); first | (go_simp; done) | (go_simp; with_reducible rfl)
                        (try simp only [Act.put, List.setIfInBounds_toArray, List.set_cons_zero, List.set_cons_succ])
                        refine wpAnyH_done (by kernel_rfl) ?_ _
                        refine NoPanic.normal ?_
                        go_wp2_with fail
                        go_meet
                        exact ⟨xb, A6, n6, c6, q6, rfl, rfl, Lib.hid kN, Lib.hid lb6, in6, eq6, hge, Lib.hid kB⟩
                      refine AllReadyH.cons (by simp only [List.getElem?_toArray, List.getElem?_cons_succ, List.getElem?_cons_zero]; rfl) (fun K hK => ?_) AllReadyH.nil
                      go_simp
                      have kN : PtAt ((wr.alloc (.cells #[.slice none 0 0, .int .i64 0, .bool false, .int .i64 0, .int .i64 0, .int .i64 0, .int .i64 0, .bool false, .int .i64 0] 53)).drew) wr.heap.size (.slice none 0 0) pt0 := (PtAt.new wr (.slice none 0 0) pt0 53).drew
                      have hge : Hid (wr.heap.size ≤ wr.heap.size) := Lib.hid (Nat.le_refl _)
                      replace kB : Below wr.heap.size wr ((wr.alloc (.cells #[.slice none 0 0, .int .i64 0, .bool false, .int .i64 0, .int .i64 0, .int .i64 0, .int .i64 0, .bool false, .int .i64 0] 53)).drew) := Below.drew (kp_alloc (Below.refl _ _) _)
                      clear hHeld
                      obtain ⟨W6, hW6⟩ : ∃ X, X = (wr.alloc (.cells #[.slice none 0 0, .int .i64 0, .bool false, .int .i64 0, .int .i64 0, .int .i64 0, .int .i64 0, .bool false, .int .i64 0] 53)).drew := ⟨_, rfl⟩
                      rw [← hW6] at kB kN  ⊢
                      clear hW6
                      obtain ⟨xb, hxb⟩ : ∃ X, X = wr.heap.size := ⟨_, rfl⟩
                      have kN2 := kN; have hge2 := hge; rw [← hxb] at kN2 ⊢; replace hge2 : Hid (wr.heap.size ≤ xb) := Lib.hid (by rw [hxb]; exact Nat.le_refl _); clear kN hge; have kN := kN2; have hge := hge2; clear kN2 hge2
                      clear hxb
                      refine hK.out _ _ (by assumption) (fun hHeld => ?_)
                      clear hK K
                      (try simp only [Act.put, List.setIfInBounds_toArray, List.set_cons_zero, List.set_cons_succ])
                      refine wpAnyH_ready (rs := [12]) (by kernel_rfl) (by simp) ?_
                      refine AllReadyH.cons (by simp only [List.getElem?_toArray, List.getElem?_cons_succ, List.getElem?_cons_zero]; rfl) (fun K hK => ?_) AllReadyH.nil
                      try go_simp
                      refine (hpc.out _ kB).mono ?_; rintro e w5 ⟨⟨A6, n6, c6, q6, rfl, lb6, in6, eq6⟩, b5⟩
                      replace kB := trans9 kB b5
                      replace kN := kN.below b5
                      replace in6 := Lib.hid in6
                      replace eq6 := Lib.hid eq6
                      clear b5
                      try go_wp2_with fail
                      refine hK.out _ _ (by assumption) (fun hHeld => ?_)
                      clear hK K
                      (try simp only [Act.put, List.setIfInBounds_toArray, List.set_cons_zero, List.set_cons_succ])
                      refine wpAnyH_take (i := 13) (v := ?_) (by simp only [List.getElem?_toArray, List.getElem?_cons_succ, List.getElem?_cons_zero]; rfl) (by kernel_rfl) (by kernel_rfl) (by kernel_rfl) (fun _ _ _ h => h) (Or.inl ⟨by rfl, ?_⟩) (by assumption) ?_
                      rotate_left
                      · intro x hSw; (try dsimp only at hSw); first | (go_simp; done) | (go_simp; with_reducible rfl)
                      (try simp only [Act.put, List.setIfInBounds_toArray, List.set_cons_zero, List.set_cons_succ])
                      refine wpAnyH_take (i := 14) (v := ?_) (by simp only [List.getElem?_toArray, List.getElem?_cons_succ, List.getElem?_cons_zero]; rfl) (by kernel_rfl) (by kernel_rfl) (by kernel_rfl) (fun _ _ _ h => h) (Or.inl ⟨by rfl, ?_⟩) (by assumption) ?_
                      rotate_left
                      · intro x hSw; (try dsimp only at hSw); first | (go_simp; done) | (go_simp; with_reducible rfl)
                      (try simp only [Act.put, List.setIfInBounds_toArray, List.set_cons_zero, List.set_cons_succ])
                      refine wpAnyH_take (i := 15) (v := ?_) (by simp only [List.getElem?_toArray, List.getElem?_cons_succ, List.getElem?_cons_zero]; rfl) (by kernel_rfl) (by kernel_rfl) (by kernel_rfl) (fun _ _ _ h => h) (Or.inl ⟨by rfl, ?_⟩) (by assumption) ?_
                      rotate_left
                      · intro x hSw; (try dsimp only at hSw); first | (go_simp; done) | (go_simp; with_reducible rfl)
                      (try simp only [Act.put, List.setIfInBounds_toArray, List.set_cons_zero, List.set_cons_succ])
                      refine wpAnyH_ready (rs := [17]) (by kernel_rfl) (by simp) ?_
                      refine ready_store_pt (by simp only [List.getElem?_toArray, List.getElem?_cons_succ, List.getElem?_cons_zero]; rfl) (by rfl) (.tmp 13) (.tmp 101) (by rfl) xb _ _ A6 n6 c6 q6 (by rfl) (by rfl) kN ?_ (fun hHeld => ?_)
                      · exact below_set9 kB hge.out
                      replace kB := below_set9 (u := .slice A6 n6 c6) (q := q6) kB hge.out
                      replace lb6 := LbRow.set9 (u := .slice A6 n6 c6) (q := q6) lb6 rfl kN
                      replace kN := PtAt.set9 (lv := .slice A6 n6 c6) (p := q6) kN
                      clear hHeld
                      obtain ⟨W7, hW7⟩ : ∃ X, X = set9 w5 xb (.slice A6 n6 c6) q6 := ⟨_, rfl⟩
                      rw [← hW7] at kB kN lb6 ⊢
                      clear hW7
                      (try simp only [Act.put, List.setIfInBounds_toArray, List.set_cons_zero, List.set_cons_succ])
                      refine wpAnyH_take (i := 18) (v := ?_) (by simp only [List.getElem?_toArray, List.getElem?_cons_succ, List.getElem?_cons_zero]; rfl) (by kernel_rfl) (by kernel_rfl) (by kernel_rfl) (fun _ _ _ h => h) (Or.inl ⟨by rfl, ?_⟩) (by assumption) ?_
                      rotate_left
                      · intro x hSw; (try dsimp only at hSw); first | (go_simp; done) | (go_simp; with_reducible rfl)
                      (try simp only [Act.put, List.setIfInBounds_toArray, List.set_cons_zero, List.set_cons_succ])
                      refine wpAnyH_done (by kernel_rfl) ?_ _
                      refine NoPanic.normal ?_
                      go_wp2_with fail
                      go_meet
                      exact ⟨xb, A6, n6, c6, q6, rfl, rfl, Lib.hid kN, Lib.hid lb6, in6, eq6, hge, Lib.hid kB⟩
                    case rest =>
                      obtain ⟨xb, A6, n6, c6, q6, rfl, rfl, PX, LX, IX, EX, hge, HB2⟩ := hcut
                      have PA2 := Lib.hid (PA.out.below HB2.out)
                      have QA2 := Lib.hid (QA.out.below HB2.out)
                      have LB2 := Lib.hid (LB.out.below HB2.out)
                      have HBc := Lib.hid (trans9 HB.out HB2.out)
                      clear l0 l1 m1 n0 hpc PA QA LB HB HB2
                      cases OY with
                      | none =>
                        have hst2 : Hid (ptLook (allF (flat (L.take (j + 1)))) xn P = ptLook (allF (flat (L.take j))) xn P) := Lib.hid (by rw [hst.out]; rfl)
                        clear hst
                        go_wp2_with fail
                        go_roundw
                        case rel => exact ⟨j + 1, A5, n5, c5, q5, hjl, by go_num, by rw [hst2.out], PA2, QA2, LB2, QI, Lib.hid (by rw [hst2.out]; exact QE.out), HBc⟩
                        case measure => simp [intOf]; omega
                      | some P2 =>
                        have hst2 : Hid (ptLook (allF (flat (L.take (j + 1)))) xn P = some P2) := Lib.hid (by rw [hst.out]; rfl)
                        have EX2 : Hid (q6 = P2) := Lib.hid EX.out
                        clear hst EX
                        have u0 := PX.out.c0; have u1 := PX.out.c1; have u2 := PX.out.c2; have u3 := PX.out.c3; have u4 := PX.out.c4; have u5 := PX.out.c5; have u6 := PX.out.c6; have u7 := PX.out.c7; have u8 := PX.out.c8
                        have v0 := QA2.out.c0; have v1 := QA2.out.c1; have v2 := QA2.out.c2; have v3 := QA2.out.c3; have v4 := QA2.out.c4; have v5 := QA2.out.c5; have v6 := QA2.out.c6; have v7 := QA2.out.c7; have v8 := QA2.out.c8; have vf := QA2.out.fr
                        have HBs : Hid (Below W4.heap.size W4 (set9 wc (pb + 1) (.slice A6 n6 c6) q6)) := Lib.hid (below_set9 HBc.out (by omega))
                        have PAs : Hid (PtAt (set9 wc (pb + 1) (.slice A6 n6 c6) q6) pb (.slice A1 n1 cap1) ⟨pl, ro, inf, bm, bs, m, s, td, ti⟩) := Lib.hid (PA2.out.set9o (by omega))
                        have QAs : Hid (PtAt (set9 wc (pb + 1) (.slice A6 n6 c6) q6) (pb + 1) (.slice A6 n6 c6) q6) := Lib.hid QA2.out.set9
                        have LBs : Hid (LbRow (set9 wc (pb + 1) (.slice A6 n6 c6) q6) (.slice A6 n6 c6) q6.l) := Lib.hid (LX.out.set9 rfl QA2.out)
                        clear PA2 QA2 LB2 PX LX HBc
                        go_wp2_with fail
                        go_roundw
                        case rel => exact ⟨j + 1, A6, n6, c6, q6, hjl, by go_num, by rw [hst2.out]; rfl, PAs, QAs, LBs, IX, Lib.hid (by rw [hst2.out, EX2.out]; rfl), HBs⟩
                        case measure => simp [intOf]; omega
                  ·
                    have hjL : L.take j = L := List.take_of_length_le (by have := hLL.out; omega)
                    have hq5 : Hid (q5 = P) := Lib.hid (by have h := QE.out; rw [hjL, HSELF.out] at h; exact h)
                    have hsp := Lib.hid (HSP.out wr HB.out A5 n5 c5 q5 LB.out QI.out hq5.out)
                    rw [hjL, HSELF.out]
                    have u0 := PA.out.c0; have u1 := PA.out.c1; have u2 := PA.out.c2; have u3 := PA.out.c3; have u4 := PA.out.c4; have u5 := PA.out.c5; have u6 := PA.out.c6; have u7 := PA.out.c7; have u8 := PA.out.c8
                    have v0 := QA.out.c0; have v1 := QA.out.c1; have v2 := QA.out.c2; have v3 := QA.out.c3; have v4 := QA.out.c4; have v5 := QA.out.c5; have v6 := QA.out.c6; have v7 := QA.out.c7; have v8 := QA.out.c8
                    clear hjL HSELF HSP QE PA QA LB QI HPC
                    simp only [Option.isSome_some]
                    go_wp2_with fail
                    refine hsp.out.mono ?_; rintro e w8 ⟨rfl, b8⟩
                    have HB8 := Lib.hid (trans9 HB.out b8)
                    clear b8 u0 u1 u2 u3 u4 u5 u6 u7 u8 v0 v1 v2 v3 v4 v5 v6 v7 v8 HB hsp
                    go_wp2_with fail
                    go_roundw
                    case rel => exact ⟨k + 1, hkl, by go_num, by go_num, HB8⟩
                    case measure => simp [intOf]; omega
              · have HB2 := HB
                clear HB
                go_wp2_with fail
                go_roundw
                case rel => exact ⟨i + 1, hil, by go_num, by rw [hst.out, show k = xL.length by omega], HB2⟩
                case measure => simp [intOf]; omega
          ·
            obtain rfl : i = M.length := by omega
            have hfn : Hid (nPts ((fms M).take M.length) = nPts (fms M)) := Lib.hid (by rw [List.take_of_length_le (by simp [fms])])
            generalize nPts ((fms M).take M.length) = fn at *
            clear hil hi
            go_wp2_with fail
            go_loopw [15] (fun s wr => ∃ n : Nat, n ≤ l.length ∧ s = .int .i64 (n : Nat) ∧ Hid (Below W4.heap.size W4 wr)) (fun s _ => l.length - (intOf s).toNat)
            case atStart => exact ⟨0, Nat.zero_le _, rfl, HB⟩
            case round =>
              clear HB x1
              obtain ⟨n, hn, rfl, HB⟩ := hrel
              by_cases hnl : n < l.length
              · obtain ⟨b, off, rfl, hbs, hc⟩ := HR.out (by omega)
                obtain ⟨y, hy, hyp⟩ := bs_get hnl
                have hym := List.mem_of_getElem? hy
                have hiy := HP.out y hym
                obtain ⟨c0, c1⟩ := br_cells hc hy
                have hLn : Hid (L[n]? = some (bp y)) := Lib.hid (by rw [HL.out]; exact hyp)
                have hYF := Lib.hid (HBF.out.f y hym)
                obtain ⟨Ay, cy, hyv, hylc, hycm, _, hyrow⟩ := hiy.1.1
                unfold maxLen at hycm
                have HYR := Lib.hid hyrow
                have HYP := Lib.hid hiy.1.2
                rw [hyv] at c1
                have HC1 : Hid (∀ z, Below W4.heap.size W4 z → z.cell? ⟨b, off + n * 2 + 1, none⟩ = some (.slice Ay y.F.length cy)) := Lib.hid (fun z hz => ((trans9 K4.out hz).cell (p := ⟨b, off + n * 2 + 1, none⟩) hbs).trans c1)
                have hn1 : (n : Int) < (l.length : Int) := by omega
                have hn2 : (0 : Int) ≤ (n : Int) := by omega
                have hyn := hYF.out.n
                clear hc c0 c1 hy hyp hym hiy hyrow hyv hn
                obtain ⟨yt, yv, yF⟩ := y
                simp only [bp] at hLn hYF HYR HYP HC1 hyn hylc
                go_wp2_with fail
                go_loopw [16] (fun s wr => ∃ i : Nat, i ≤ yF.length ∧ s = .int .i64 (i : Nat) ∧ Hid (Below W4.heap.size W4 wr)) (fun s _ => yF.length - (intOf s).toNat)
                case atStart => exact ⟨0, Nat.zero_le _, rfl, HB⟩
                case round =>
                  clear HB
                  obtain ⟨i, hi, rfl, HB⟩ := hrel
                  have x1 := HC1.out _ HB.out
                  by_cases hil : i < yF.length
                  · obtain ⟨bF, oF, rfl, hbF, hcF⟩ := HYR.out (by omega)
                    obtain ⟨x, hx, hxp⟩ := fs_get hil
                    have hxm := List.mem_of_getElem? hx
                    have hix := HYP.out x hxm
                    obtain ⟨c0, c1, c2, c3, c4⟩ := fr_cells hcF hx
                    have hXM : Hid (fm x ∈ fms yF) := Lib.hid (List.mem_of_getElem? hxp)
                    have hlx := hYF.out.p x hxm
                    have HPX := Lib.hid hix.1.2
                    obtain ⟨A3, cap3, hxv, hlc3, hcm3, _, hrow3⟩ := hix.1.1
                    unfold maxLen at hcm3
                    have HR3 := Lib.hid hrow3
                    have hHN := Lib.hid hix.2.ln
                    rw [hxv] at c4
                    have kz := trans9 K4.out HB.out
                    have g0 := (kz.cell (p := ⟨bF, oF + i * 5, none⟩) hbF).trans c0
                    have g1 := (kz.cell (p := ⟨bF, oF + i * 5 + 1, none⟩) hbF).trans c1
                    have g2 := (kz.cell (p := ⟨bF, oF + i * 5 + 2, none⟩) hbF).trans c2
                    have g3 := (kz.cell (p := ⟨bF, oF + i * 5 + 3, none⟩) hbF).trans c3
                    have g4 := (kz.cell (p := ⟨bF, oF + i * 5 + 4, none⟩) hbF).trans c4
                    have hi1 : (i : Int) < (yF.length : Int) := by omega
                    have hi2 : (0 : Int) ≤ (i : Int) := by omega
                    clear hcF hx hxp hxm hix c0 c1 c2 c3 c4 kz hxv hrow3
                    obtain ⟨⟨xn, xk, xu, xh⟩, xv, xL⟩ := x
                    simp only [fm] at hXM hlx HPX HR3 hHN hlc3 g0 g1 g2 g3 g4
                    go_upto_region 38 with fail
                    obtain ⟨W5, hW5⟩ : ∃ X, X = wr.alloc (.cells #[.string (str xn), .int .i64 xk, .string (str xu), .string (str xh), .slice A3 xL.length cap3] 41) := ⟨_, rfl⟩
                    have K5 : Hid (Below W4.heap.size W4 W5) := Lib.hid (by rw [hW5]; exact kp_alloc HB.out _)
                    have FA : Hid (FamAt W5 wr.heap.size ⟨xn, xk, xu, xh⟩ (.slice A3 xL.length cap3)) := Lib.hid (by rw [hW5]; exact FamAt.new wr ⟨xn, xk, xu, xh⟩ (.slice A3 xL.length cap3) 41)
                    rw [← hW5]
                    clear hW5 g0 g1 g2 g3 g4 x1 HB
                    generalize wr.heap.size = fb17 at *
                    go_wp2_with fail
                    go_loopw [18] (fun s wr => ∃ k : Nat, k ≤ xL.length ∧ s = .int .i64 (k : Nat) ∧ Hid (Below W5.heap.size W5 wr)) (fun s _ => xL.length - (intOf s).toNat)
                    case atStart => exact ⟨0, Nat.zero_le _, rfl, Lib.hid (Below.refl _ _)⟩
                    case round =>
                      obtain ⟨k, hk, rfl, HB⟩ := hrel
                      by_cases hkl : k < xL.length
                      · obtain ⟨b3, off3, rfl, hbs3, hc3⟩ := HR3.out (by omega)
                        obtain ⟨z, hz, hzp⟩ := ps_get hkl
                        have hiz := HPX.out z (List.mem_of_getElem? hz)
                        have HZM : Hid (z.2 ∈ pts xL) := Lib.hid (List.mem_of_getElem? hzp)
                        have HE := Lib.hid (pr_cells hc3 hz)
                        obtain ⟨A1, n1, cap1, hz1⟩ : ∃ A1 n1 cap1, z.1 = .slice A1 n1 cap1 := by obtain ⟨_, _, h, _⟩ := hiz.1; exact ⟨_, _, _, h⟩
                        obtain ⟨zv, p⟩ := z
                        simp only at hz1
                        subst hz1
                        simp only at HZM HE
                        have hsm : Hid ((ptLook (fms M) xn p).isSome = true) := Lib.hid (by
                          rw [hmf.out]
                          refine there_all hAO.out hLn.out ?_
                          have hc := hAO.out.c _ (List.mem_of_getElem? hLn.out)
                          have h := ptLook_self (chk_parts hc).1 (chk_ps hc) hXM.out HZM.out
                          simp only at h
                          simp only
                          rw [h]; rfl)
                        have KW := Lib.hid (trans9 K5.out HB.out)
                        have KW0 := Lib.hid (trans9 K4.out KW.out)
                        have hpc : Hid (∀ W, Below wr.heap.size wr W → Calls Tryz.prog 19 #[batv (mT L) (.slice Am M.length cm), .string (str xn), ptv (.slice A1 n1 cap1) p] W fun e w' => HpRes (ptLook (fms M) xn p) e w' ∧ Below W.heap.size W w') := Lib.hid (fun W hW =>
                          hpoint_calls (mT L) M (.slice Am M.length cm) xn (.slice A1 n1 cap1, p) W (RM.out.below (trans9 KW.out hW)) HFM.out ⟨hiz.1.below (trans9 KW0.out hW), hiz.2⟩)
                        have m0 := Lib.hid (fun z (hz : Below wr.heap.size wr z) => hz1.out z (trans9 KW.out hz))
                        have m1 := Lib.hid (fun z (hz : Below wr.heap.size wr z) => hz2.out z (trans9 KW.out hz))
                        have x4 := (FA.out.below HB.out).c4
                        have hk1 : (k : Int) < (xL.length : Int) := by omega
                        have hk2 : (0 : Int) ≤ (k : Int) := by omega
                        clear hc3 hz hzp hiz
                        generalize ptLook (fms M) xn p = OY at *
                        go_wp2_with fail
                        go_cut [19, 20] from 146 to 159 (fun s19 s20 wx => s20 = .bool true ∧ Hid (Below wr.heap.size wr wx))
                        case first =>
                          refine wp_region_noPanic ?_
                          refine wp_region_held_drew (S := fun X => Below wr.heap.size wr X) (by kernel_rfl) ?_ (fun hHeld => ?_)
                          · exact Below.drew (Below.refl _ _)
                          have kB : Below wr.heap.size wr wr.drew := Below.drew (Below.refl _ _)
                          refine wpAnyH_take (i := 0) (v := ?_) (by simp only [List.getElem?_toArray, List.getElem?_cons_succ, List.getElem?_cons_zero]; rfl) (by kernel_rfl) (by kernel_rfl) (by kernel_rfl) (fun _ _ _ h => h) (Or.inl ⟨by rfl, ?_⟩) (by assumption) ?_
                          rotate_left
                          · intro x hSw; (try dsimp only at hSw); have m0x := m0.out x hSw; have m1x := m1.out x hSw; first | (go_simp; done) | (go_simp; with_reducible rfl)
                          (try simp only [Act.put, List.setIfInBounds_toArray, List.set_cons_zero, List.set_cons_succ])
                          refine wpAnyH_take (i := 1) (v := ?_) (by simp only [List.getElem?_toArray, List.getElem?_cons_succ, List.getElem?_cons_zero]; rfl) (by kernel_rfl) (by kernel_rfl) (by kernel_rfl) (fun _ _ _ h => h) (Or.inl ⟨by rfl, ?_⟩) (by assumption) ?_
                          rotate_left
                          · intro x hSw; (try dsimp only at hSw); first | (go_simp; done) | (go_simp; with_reducible rfl)
                          (try simp only [Act.put, List.setIfInBounds_toArray, List.set_cons_zero, List.set_cons_succ])
                          refine wpAnyH_take (i := 2) (v := ?_) (by simp only [List.getElem?_toArray, List.getElem?_cons_succ, List.getElem?_cons_zero]; rfl) (by kernel_rfl) (by kernel_rfl) (by kernel_rfl) (fun _ _ _ h => h) (Or.inl ⟨by rfl, ?_⟩) (by assumption) ?_
                          rotate_left
                          · intro x hSw; (try dsimp only at hSw); first | (go_simp; done) | (go_simp; with_reducible rfl)
                          (try simp only [Act.put, List.setIfInBounds_toArray, List.set_cons_zero, List.set_cons_succ])
                          refine wpAnyH_take (i := 3) (v := ?_) (by simp only [List.getElem?_toArray, List.getElem?_cons_succ, List.getElem?_cons_zero]; rfl) (by kernel_rfl) (by kernel_rfl) (by kernel_rfl) (fun _ _ _ h => h) (Or.inl ⟨by rfl, ?_⟩) (by assumption) ?_
                          rotate_left
                          · intro x hSw; (try dsimp only at hSw); have fz := (FA.out.below (trans9 HB.out hSw)).c0; first | (go_simp; done) | (go_simp; with_reducible rfl)
                          (try simp only [Act.put, List.setIfInBounds_toArray, List.set_cons_zero, List.set_cons_succ])
                          refine wpAnyH_take (i := 4) (v := ?_) (by simp only [List.getElem?_toArray, List.getElem?_cons_succ, List.getElem?_cons_zero]; rfl) (by kernel_rfl) (by kernel_rfl) (by kernel_rfl) (fun _ _ _ h => h) (Or.inl ⟨by rfl, ?_⟩) (by assumption) ?_
                          rotate_left
                          · intro x hSw; (try dsimp only at hSw); first | (go_simp; done) | (go_simp; with_reducible rfl)
                          (try simp only [Act.put, List.setIfInBounds_toArray, List.set_cons_zero, List.set_cons_succ])
                          refine wpAnyH_take (i := 5) (v := ?_) (by simp only [List.getElem?_toArray, List.getElem?_cons_succ, List.getElem?_cons_zero]; rfl) (by kernel_rfl) (by kernel_rfl) (by kernel_rfl) (fun _ _ _ h => h) (Or.inl ⟨by rfl, ?_⟩) (by assumption) ?_
                          rotate_left
                          · intro x hSw; (try dsimp only at hSw); have fz := (FA.out.below (trans9 HB.out hSw)).c4; first | (go_simp; done) | (go_simp; with_reducible rfl)
                          (try simp only [Act.put, List.setIfInBounds_toArray, List.set_cons_zero, List.set_cons_succ])
                          refine wpAnyH_take (i := 6) (v := ?_) (by simp only [List.getElem?_toArray, List.getElem?_cons_succ, List.getElem?_cons_zero]; rfl) (by kernel_rfl) (by kernel_rfl) (by kernel_rfl) (fun _ _ _ h => h) (Or.inl ⟨by rfl, ?_⟩) (by assumption) ?_
                          rotate_left
                          · intro x hSw; (try dsimp only at hSw); first | (go_simp; done) | (go_simp; with_reducible rfl)
                          (try simp only [Act.put, List.setIfInBounds_toArray, List.set_cons_zero, List.set_cons_succ])
                          refine wpAnyH_take (i := 7) (v := ?_) (by simp only [List.getElem?_toArray, List.getElem?_cons_succ, List.getElem?_cons_zero]; rfl) (by kernel_rfl) (by kernel_rfl) (by kernel_rfl) (fun _ _ _ h => h) (Or.inl ⟨by rfl, ?_⟩) (by assumption) ?_
                          rotate_left
                          · intro x hSw; (try dsimp only at hSw); first | (go_simp; done) | (go_simp; with_reducible rfl)
                          (try simp only [Act.put, List.setIfInBounds_toArray, List.set_cons_zero, List.set_cons_succ])
                          refine wpAnyH_take (i := 8) (v := ?_) (by simp only [List.getElem?_toArray, List.getElem?_cons_succ, List.getElem?_cons_zero]; rfl) (by kernel_rfl) (by kernel_rfl) (by kernel_rfl) (fun _ _ _ h => h) (Or.inl ⟨by rfl, ?_⟩) (by assumption) ?_
                          rotate_left
                          · intro x hSw; (try dsimp only at hSw); have ez := trans9 KW0.out hSw; have y0 := (ez.cell (p := ⟨b3, off3 + k * 9, none⟩) hbs3).trans HE.out.1; have y1 := (ez.cell (p := ⟨b3, off3 + k * 9 + 1, none⟩) hbs3).trans HE.out.2.1; have y2 := (ez.cell (p := ⟨b3, off3 + k * 9 + 2, none⟩) hbs3).trans HE.out.2.2.1; have y3 := (ez.cell (p := ⟨b3, off3 + k * 9 + 3, none⟩) hbs3).trans HE.out.2.2.2.1; have y4 := (ez.cell (p := ⟨b3, off3 + k * 9 + 4, none⟩) hbs3).trans HE.out.2.2.2.2.1; have y5 := (ez.cell (p := ⟨b3, off3 + k * 9 + 5, none⟩) hbs3).trans HE.out.2.2.2.2.2.1; have y6 := (ez.cell (p := ⟨b3, off3 + k * 9 + 6, none⟩) hbs3).trans HE.out.2.2.2.2.2.2.1; have y7 := (ez.cell (p := ⟨b3, off3 + k * 9 + 7, none⟩) hbs3).trans HE.out.2.2.2.2.2.2.2.1; have y8 := (ez.cell (p := ⟨b3, off3 + k * 9 + 8, none⟩) hbs3).trans HE.out.2.2.2.2.2.2.2.2; clear ez; first | (go_simp; done) | (go_simp; with_reducible rfl)
                          (try simp only [Act.put, List.setIfInBounds_toArray, List.set_cons_zero, List.set_cons_succ])
                          refine wpAnyH_ready (rs := [9, 13]) (by kernel_rfl) (by simp) ?_
                          refine AllReadyH.cons (by simp only [List.getElem?_toArray, List.getElem?_cons_succ, List.getElem?_cons_zero]; rfl) (fun K hK => ?_) ?_
                          · try go_simp
                            refine (hpc.out _ kB).mono ?_; rintro e w5 ⟨⟨A6, n6, c6, q6, rfl, lb6, in6, eq6⟩, b5⟩
                            replace kB := trans9 kB b5
                            replace in6 := Lib.hid in6
                            replace eq6 := Lib.hid eq6
                            clear b5
                            try go_wp2_with fail
                            refine hK.out _ _ (by assumption) (fun hHeld => ?_)
                            clear hK K
                            (try simp only [Act.put, List.setIfInBounds_toArray, List.set_cons_zero, List.set_cons_succ])
                            refine wpAnyH_take (i := 10) (v := ?_) (by simp only [List.getElem?_toArray, List.getElem?_cons_succ, List.getElem?_cons_zero]; rfl) (by kernel_rfl) (by kernel_rfl) (by kernel_rfl) (fun _ _ _ h => h) (Or.inl ⟨by rfl, ?_⟩) (by assumption) ?_
                            rotate_left
                            · intro x hSw; (try dsimp only at hSw); first | (go_simp; done) | (go_simp; with_reducible rfl)
                            (try simp only [Act.put, List.setIfInBounds_toArray, List.set_cons_zero, List.set_cons_succ])
                            refine wpAnyH_take (i := 11) (v := ?_) (by simp only [List.getElem?_toArray, List.getElem?_cons_succ, List.getElem?_cons_zero]; rfl) (by kernel_rfl) (by kernel_rfl) (by kernel_rfl) (fun _ _ _ h => h) (Or.inl ⟨by rfl, ?_⟩) (by assumption) ?_
                            rotate_left
                            · intro x hSw; (try dsimp only at hSw); first | (go_simp; done) | (go_simp; with_reducible rfl)
                            (try simp only [Act.put, List.setIfInBounds_toArray, List.set_cons_zero, List.set_cons_succ])
                            refine wpAnyH_take (i := 12) (v := ?_) (by simp only [List.getElem?_toArray, List.getElem?_cons_succ, List.getElem?_cons_zero]; rfl) (by kernel_rfl) (by kernel_rfl) (by kernel_rfl) (fun _ _ _ h => h) (Or.inl ⟨by rfl, ?_⟩) (by assumption) ?_
                            rotate_left
                            · intro x hSw; (try dsimp only at hSw); first | (go_simp; done) | (go_simp; with_reducible rfl)
                            (try simp only [Act.put, List.setIfInBounds_toArray, List.set_cons_zero, List.set_cons_succ])
                            refine wpAnyH_ready (rs := [13]) (by kernel_rfl) (by simp) ?_
                            refine AllReadyH.cons (by simp only [List.getElem?_toArray, List.getElem?_cons_succ, List.getElem?_cons_zero]; rfl) (fun K hK => ?_) AllReadyH.nil
                            go_simp
                            have kN : PtAt ((w5.alloc (.cells #[.slice none 0 0, .int .i64 0, .bool false, .int .i64 0, .int .i64 0, .int .i64 0, .int .i64 0, .bool false, .int .i64 0] 53))) w5.heap.size (.slice none 0 0) pt0 := (PtAt.new w5 (.slice none 0 0) pt0 53)
                            have hge : Hid (wr.heap.size ≤ w5.heap.size) := Lib.hid kB.size
                            replace lb6 := lb6.below ((Below.refl _ _).alloc (Nat.le_refl _) (.cells #[.slice none 0 0, .int .i64 0, .bool false, .int .i64 0, .int .i64 0, .int .i64 0, .int .i64 0, .bool false, .int .i64 0] 53))
                            replace kB : Below wr.heap.size wr ((w5.alloc (.cells #[.slice none 0 0, .int .i64 0, .bool false, .int .i64 0, .int .i64 0, .int .i64 0, .int .i64 0, .bool false, .int .i64 0] 53))) := kp_alloc kB _
                            clear hHeld
                            obtain ⟨W6, hW6⟩ : ∃ X, X = (w5.alloc (.cells #[.slice none 0 0, .int .i64 0, .bool false, .int .i64 0, .int .i64 0, .int .i64 0, .int .i64 0, .bool false, .int .i64 0] 53)) := ⟨_, rfl⟩
                            rw [← hW6] at kB kN lb6 ⊢
                            clear hW6
                            obtain ⟨xb, hxb⟩ : ∃ X, X = w5.heap.size := ⟨_, rfl⟩
                            rw [← hxb] at kN hge ⊢
                            clear hxb
                            refine hK.out _ _ (by assumption) (fun hHeld => ?_)
                            clear hK K
                            (try simp only [Act.put, List.setIfInBounds_toArray, List.set_cons_zero, List.set_cons_succ])
                            refine wpAnyH_ready (rs := [14]) (by kernel_rfl) (by simp) ?_
                            refine ready_store_pt (by simp only [List.getElem?_toArray, List.getElem?_cons_succ, List.getElem?_cons_zero]; rfl) (by rfl) (.tmp 19) (.tmp 157) (by rfl) xb _ _ A6 n6 c6 q6 (by rfl) (by rfl) kN ?_ (fun hHeld => ?_)
                            · exact below_set9 kB hge.out
                            replace kB := below_set9 (u := .slice A6 n6 c6) (q := q6) kB hge.out
                            replace lb6 := LbRow.set9 (u := .slice A6 n6 c6) (q := q6) lb6 rfl kN
                            replace kN := PtAt.set9 (lv := .slice A6 n6 c6) (p := q6) kN
                            clear hHeld
                            obtain ⟨W7, hW7⟩ : ∃ X, X = set9 W6 xb (.slice A6 n6 c6) q6 := ⟨_, rfl⟩
                            rw [← hW7] at kB kN lb6 ⊢
                            clear hW7
                            (try simp only [Act.put, List.setIfInBounds_toArray, List.set_cons_zero, List.set_cons_succ])
                            refine wpAnyH_take (i := 15) (v := ?_) (by simp only [List.getElem?_toArray, List.getElem?_cons_succ, List.getElem?_cons_zero]; rfl) (by kernel_rfl) (by kernel_rfl) (by kernel_rfl) (fun _ _ _ h => h) (Or.inl ⟨by rfl, ?_⟩) (by assumption) ?_
                            rotate_left
                            · intro x hSw; (try dsimp only at hSw); first | (go_simp; done) | (go_simp; with_reducible rfl)
                            (try simp only [Act.put, List.setIfInBounds_toArray, List.set_cons_zero, List.set_cons_succ])
                            refine wpAnyH_done (by kernel_rfl) ?_ _
                            refine NoPanic.normal ?_
                            go_wp2_with fail
                            go_meet
                            exact ⟨congrArg Value.bool hsm.out, Lib.hid kB⟩
                          refine AllReadyH.cons (by simp only [List.getElem?_toArray, List.getElem?_cons_succ, List.getElem?_cons_zero]; rfl) (fun K hK => ?_) AllReadyH.nil
                          go_simp
                          have kN : PtAt ((wr.alloc (.cells #[.slice none 0 0, .int .i64 0, .bool false, .int .i64 0, .int .i64 0, .int .i64 0, .int .i64 0, .bool false, .int .i64 0] 53)).drew) wr.heap.size (.slice none 0 0) pt0 := (PtAt.new wr (.slice none 0 0) pt0 53).drew
                          have hge : Hid (wr.heap.size ≤ wr.heap.size) := Lib.hid (Nat.le_refl _)
                          replace kB : Below wr.heap.size wr ((wr.alloc (.cells #[.slice none 0 0, .int .i64 0, .bool false, .int .i64 0, .int .i64 0, .int .i64 0, .int .i64 0, .bool false, .int .i64 0] 53)).drew) := Below.drew (kp_alloc (Below.refl _ _) _)
                          clear hHeld
                          obtain ⟨W6, hW6⟩ : ∃ X, X = (wr.alloc (.cells #[.slice none 0 0, .int .i64 0, .bool false, .int .i64 0, .int .i64 0, .int .i64 0, .int .i64 0, .bool false, .int .i64 0] 53)).drew := ⟨_, rfl⟩
                          rw [← hW6] at kB kN  ⊢
                          clear hW6
                          obtain ⟨xb, hxb⟩ : ∃ X, X = wr.heap.size := ⟨_, rfl⟩
                          have kN2 := kN; have hge2 := hge; rw [← hxb] at kN2 ⊢; replace hge2 : Hid (wr.heap.size ≤ xb) := Lib.hid (by rw [hxb]; exact Nat.le_refl _); clear kN hge; have kN := kN2; have hge := hge2; clear kN2 hge2
                          clear hxb
                          refine hK.out _ _ (by assumption) (fun hHeld => ?_)
                          clear hK K
                          (try simp only [Act.put, List.setIfInBounds_toArray, List.set_cons_zero, List.set_cons_succ])
                          refine wpAnyH_ready (rs := [9]) (by kernel_rfl) (by simp) ?_
                          refine AllReadyH.cons (by simp only [List.getElem?_toArray, List.getElem?_cons_succ, List.getElem?_cons_zero]; rfl) (fun K hK => ?_) AllReadyH.nil
                          try go_simp
                          refine (hpc.out _ kB).mono ?_; rintro e w5 ⟨⟨A6, n6, c6, q6, rfl, lb6, in6, eq6⟩, b5⟩
                          replace kB := trans9 kB b5
                          replace kN := kN.below b5
                          replace in6 := Lib.hid in6
                          replace eq6 := Lib.hid eq6
                          clear b5
                          try go_wp2_with fail
                          refine hK.out _ _ (by assumption) (fun hHeld => ?_)
                          clear hK K
                          (try simp only [Act.put, List.setIfInBounds_toArray, List.set_cons_zero, List.set_cons_succ])
                          refine wpAnyH_take (i := 10) (v := ?_) (by simp only [List.getElem?_toArray, List.getElem?_cons_succ, List.getElem?_cons_zero]; rfl) (by kernel_rfl) (by kernel_rfl) (by kernel_rfl) (fun _ _ _ h => h) (Or.inl ⟨by rfl, ?_⟩) (by assumption) ?_
                          rotate_left
                          · intro x hSw; (try dsimp only at hSw); first | (go_simp; done) | (go_simp; with_reducible rfl)
                          (try simp only [Act.put, List.setIfInBounds_toArray, List.set_cons_zero, List.set_cons_succ])
                          refine wpAnyH_take (i := 11) (v := ?_) (by simp only [List.getElem?_toArray, List.getElem?_cons_succ, List.getElem?_cons_zero]; rfl) (by kernel_rfl) (by kernel_rfl) (by kernel_rfl) (fun _ _ _ h => h) (Or.inl ⟨by rfl, ?_⟩) (by assumption) ?_
                          rotate_left
                          · intro x hSw; (try dsimp only at hSw); first | (go_simp; done) | (go_simp; with_reducible rfl)
                          (try simp only [Act.put, List.setIfInBounds_toArray, List.set_cons_zero, List.set_cons_succ])
                          refine wpAnyH_take (i := 12) (v := ?_) (by simp only [List.getElem?_toArray, List.getElem?_cons_succ, List.getElem?_cons_zero]; rfl) (by kernel_rfl) (by kernel_rfl) (by kernel_rfl) (fun _ _ _ h => h) (Or.inl ⟨by rfl, ?_⟩) (by assumption) ?_
                          rotate_left
                          · intro x hSw; (try dsimp only at hSw); first | (go_simp; done) | (go_simp; with_reducible rfl)
                          (try simp only [Act.put, List.setIfInBounds_toArray, List.set_cons_zero, List.set_cons_succ])
                          refine wpAnyH_ready (rs := [14]) (by kernel_rfl) (by simp) ?_
                          refine ready_store_pt (by simp only [List.getElem?_toArray, List.getElem?_cons_succ, List.getElem?_cons_zero]; rfl) (by rfl) (.tmp 19) (.tmp 157) (by rfl) xb _ _ A6 n6 c6 q6 (by rfl) (by rfl) kN ?_ (fun hHeld => ?_)
                          · exact below_set9 kB hge.out
                          replace kB := below_set9 (u := .slice A6 n6 c6) (q := q6) kB hge.out
                          replace lb6 := LbRow.set9 (u := .slice A6 n6 c6) (q := q6) lb6 rfl kN
                          replace kN := PtAt.set9 (lv := .slice A6 n6 c6) (p := q6) kN
                          clear hHeld
                          obtain ⟨W7, hW7⟩ : ∃ X, X = set9 w5 xb (.slice A6 n6 c6) q6 := ⟨_, rfl⟩
                          rw [← hW7] at kB kN lb6 ⊢
                          clear hW7
                          (try simp only [Act.put, List.setIfInBounds_toArray, List.set_cons_zero, List.set_cons_succ])
                          refine wpAnyH_take (i := 15) (v := ?_) (by simp only [List.getElem?_toArray, List.getElem?_cons_succ, List.getElem?_cons_zero]; rfl) (by kernel_rfl) (by kernel_rfl) (by kernel_rfl) (fun _ _ _ h => h) (Or.inl ⟨by rfl, ?_⟩) (by assumption) ?_
                          rotate_left
                          · intro x hSw; (try dsimp only at hSw); first | (go_simp; done) | (go_simp; with_reducible rfl)
                          (try simp only [Act.put, List.setIfInBounds_toArray, List.set_cons_zero, List.set_cons_succ])
                          refine wpAnyH_done (by kernel_rfl) ?_ _
                          refine NoPanic.normal ?_
                          go_wp2_with fail
                          go_meet
                          exact ⟨congrArg Value.bool hsm.out, Lib.hid kB⟩
                        case rest =>
                          obtain ⟨rfl, HB2⟩ := hcut
                          have HB3 := Lib.hid (trans9 HB.out HB2.out)
                          clear HB HB2 hpc m0 m1 x4 KW KW0
                          go_wp2_with fail
                          go_roundw
                          case rel => exact ⟨k + 1, hkl, by go_num, HB3⟩
                          case measure => simp [intOf]; omega
                      · have x4 := (FA.out.below HB.out).c4
                        have HB2 := Lib.hid (trans9 K5.out HB.out)
                        clear HB
                        go_wp2_with fail
                        go_roundw
                        case rel => exact ⟨i + 1, hil, by go_num, HB2⟩
                        case measure => simp [intOf]; omega
                  · go_wp2_with fail
                    go_roundw
                    case rel => exact ⟨n + 1, hnl, by go_num, HB⟩
                    case measure => simp [intOf]; omega
              · have hrp := rpoints_calls M (.slice Am M.length cm) wr (RM.out.below HB.out) HFM.out
                rw [← hfn.out] at hrp
                have hrp := Lib.hid hrp
                have x2 := hz2.out _ HB.out
                go_wp2_with fail
                refine hrp.out.mono ?_; rintro e w9 ⟨rfl, b9⟩
                have K9 := Lib.hid (trans9 K4.out (trans9 HB.out b9))
                clear b9 HB x2 hrp
                go_wp2
                go_ret
                exact ⟨rfl, K9.out⟩
      · have de : (mErr L == 0) = false := by simpa using he
        have de2 : (mErr L != 0) = true := by simpa using he
        have hM0 : M = [] := by
          have := HMM.out
          rw [mF_bad he] at this
          simpa using this
        obtain ⟨Am', cm', hsl, _⟩ := RM.out.1
        cases hsl
        subst hM0
        obtain ⟨y0, y1, _, yl⟩ := BM.out
        rw [mT_bad he] at y0
        go_wp2
        go_ret
        exact ⟨rfl, K4.out⟩

end Go.Proofs.YtjeefgamkoeiaaaGreatDoor
