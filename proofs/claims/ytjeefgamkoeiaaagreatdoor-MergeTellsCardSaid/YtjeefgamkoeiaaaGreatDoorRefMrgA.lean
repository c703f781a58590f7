/- The walks of the reference's SamePoints, SameFamilies, SameFams, Same. -/
import Derived.Test.YtjeefgamkoeiaaaGreatDoorRefBatW
import Derived.Test.YtjeefgamkoeiaaaGreatDoorBatP
import Derived.Test.YtjeefgamkoeiaaaGreatDoorFamE
import Derived.Deep.RegionHeld3
import Derived.Deep.DrawnRows
import Derived.Deep.DeepCutAuto
set_option maxRecDepth 100000
set_option linter.unusedVariables false
set_option linter.unusedSimpArgs false
namespace Go.Proofs.YtjeefgamkoeiaaaGreatDoor
open Go.RowKit Dc
attribute [local go_sem ↓] Go.wp_at_zero Go.wp_at_succ

set_option maxHeartbeats 4000000 in
theorem rsamepoints_calls (v u : Value) (p q : Pt) (w : World) (hv : LbRow w v p.l) (hu : LbRow w u q.l) (hp : PtIn p) (hq : PtIn q) :
    Calls Tryz.prog 20 #[ptv v p, ptv u q] w fun e w' => e = .returned (.bool (sameP p q)) ∧ Below w.heap.size w w' := by
  have hb0 : Below w.heap.size w ((w.alloc (.cells (ptc v p) 53)).alloc (.cells (ptc u q) 53)) :=
    kp_alloc (kp_alloc (Below.refl _ _) _) _
  have hc := Lib.hid (rcomparepoints_calls v u p q _ (hv.below hb0) (hu.below hb0) hp hq)
  rw [show sameP p q = (decide (p.m = q.m ∧ p.s = q.s) && decide (cmpP p q = 0)) from rfl]
  have F0 := Lib.hid ((PtAt.new w v p 53).alloc (.cells (ptc u q) 53))
  have G0 := PtAt.new (w.alloc (.cells (ptc v p) 53)) u q 53
  rw [show (w.alloc (.cells (ptc v p) 53)).heap.size = w.heap.size + 1 by simp] at G0
  have HG0 := Lib.hid G0
  generalize cmpP p q = r at *
  obtain ⟨pl, ro, inf, bm, bs, m, s, td, ti⟩ := p
  obtain ⟨ql, ro2, inf2, bm2, bs2, m2, s2, td2, ti2⟩ := q
  dsimp only at hv hu ⊢
  have he := fun W => eql_dec m s m2 s2 W
  generalize decide (m = m2 ∧ s = s2) = E at *
  obtain ⟨A, cap, rfl, _⟩ := hv
  obtain ⟨A2, cap2, rfl, _⟩ := hu
  generalize pl.length = n at *
  generalize ql.length = n2 at *
  obtain ⟨W0, hW0⟩ : ∃ W, W = (w.alloc (.cells #[.slice A n cap, .int .i64 ro, .bool inf, .int .i64 bm, .int .i64 bs, .int .i64 m, .int .i64 s, .bool td, .int .i64 ti] 53)).alloc (.cells #[.slice A2 n2 cap2, .int .i64 ro2, .bool inf2, .int .i64 bm2, .int .i64 bs2, .int .i64 m2, .int .i64 s2, .bool td2, .int .i64 ti2] 53) := ⟨_, rfl⟩
  simp only [ptc] at hc F0 HG0 hb0
  rw [← hW0] at hc F0 HG0 hb0
  have HB := Lib.hid hb0
  clear hb0 hp hq G0
  obtain ⟨x0, x1, x2, x3, x4, x5, x6, x7, x8, xf, xl⟩ := F0.out
  obtain ⟨y0, y1, y2, y3, y4, y5, y6, y7, y8, yf, yl⟩ := HG0.out
  simp only at x0 x1 x2 x3 x4 x5 x6 x7 x8 y0 y1 y2 y3 y4 y5 y6 y7 y8
  by_cases hr : r = 0
  · have d1 : (r == 0) = true := by simpa using hr
    have d2 : decide (r = 0) = true := decide_eq_true hr
    rw [d2, Bool.and_true]
    go_enter Tryz.func20, Tryz.ntmps20
    go_upto_region 1 with fail
    rw [← hW0]
    clear hW0
    go_wp2_with fail
    refine hc.out.mono ?_; rintro e w1 ⟨rfl, b1⟩
    have k1 := Lib.hid (trans9 HB.out b1)
    have F1 := Lib.hid (F0.out.below b1)
    have G1 := Lib.hid (HG0.out.below b1)
    clear b1 x0 x1 x2 x3 x4 x5 x6 x7 x8 xf xl y0 y1 y2 y3 y4 y5 y6 y7 y8 yf yl
    obtain ⟨_, _, _, _, _, x5, x6, _, _, _, _⟩ := F1.out
    obtain ⟨_, _, _, _, _, y5, y6, _, _, _, _⟩ := G1.out
    simp only at x5 x6 y5 y6
    go_wp2
    go_ret
    exact ⟨rfl, k1.out⟩
  · have d1 : (r == 0) = false := by simpa using hr
    have d2 : decide (r = 0) = false := decide_eq_false hr
    rw [d2, Bool.and_false]
    go_enter Tryz.func20, Tryz.ntmps20
    go_upto_region 1 with fail
    rw [← hW0]
    clear hW0
    go_wp2_with fail
    refine hc.out.mono ?_; rintro e w1 ⟨rfl, b1⟩
    have k1 := Lib.hid (trans9 HB.out b1)
    clear b1
    go_wp2
    go_ret
    exact ⟨rfl, k1.out⟩

set_option maxHeartbeats 16000000 in
theorem rsamefam_calls (h g : Hd) (L M : List Ps) (v u : Value) (w : World) (hv : PtRow w v L) (hu : PtRow w u M) (hn : L.length ≤ 1000) :
    Calls Tryz.prog 17 #[famv h v, famv g u] w fun e w' => e = .returned (.bool (sameF h g (pts L) (pts M))) ∧ Below w.heap.size w w' := by
  have hb0 : Below w.heap.size w ((w.alloc (.cells (famc h v) 41)).alloc (.cells (famc g u) 41)) := kp_alloc (kp_alloc (Below.refl _ _) _) _
  have F0 := (FamAt.new w h v 41).below ((Below.refl _ _).alloc (Nat.le_refl _) (.cells (famc g u) 41))
  have G0 := FamAt.new (w.alloc (.cells (famc h v) 41)) g u 41
  rw [show (w.alloc (.cells (famc h v) 41)).heap.size = w.heap.size + 1 by simp] at G0
  have he := fun W => neq_head h g W
  have HP := Lib.hid hv.2
  have HP' := Lib.hid hu.2
  obtain ⟨A, cap, rfl, hlc, hcm, hnil, hrow⟩ := hv.1
  obtain ⟨A', cap', rfl, hlc', hcm', hnil', hrow'⟩ := hu.1
  unfold maxLen at hcm hcm'
  have HR := Lib.hid hrow
  have HR' := Lib.hid hrow'
  have hl1 : (pts L).length = L.length := by simp [pts]
  have hl2 : (pts M).length = M.length := by simp [pts]
  obtain ⟨hn1, hk, hu', hh⟩ := h
  obtain ⟨gn, gk, gu, gh⟩ := g
  obtain ⟨W0, hW0⟩ : ∃ W, W = (w.alloc (.cells #[.string (str hn1), .int .i64 hk, .string (str hu'), .string (str hh), .slice A L.length cap] 41)).alloc (.cells #[.string (str gn), .int .i64 gk, .string (str gu), .string (str gh), .slice A' M.length cap'] 41) := ⟨_, rfl⟩
  have HB : Hid (Below w.heap.size w W0) := Lib.hid (by rw [hW0]; exact hb0)
  have HF : Hid (FamAt W0 w.heap.size ⟨hn1, hk, hu', hh⟩ (.slice A L.length cap)) := Lib.hid (by rw [hW0]; exact F0)
  have HG : Hid (FamAt W0 (w.heap.size + 1) ⟨gn, gk, gu, gh⟩ (.slice A' M.length cap')) := Lib.hid (by rw [hW0]; exact G0)
  clear hrow hnil hv hrow' hnil' hu hb0 F0 G0
  obtain ⟨x0, x1, x2, x3, x4, _, xl⟩ := HF.out
  obtain ⟨y0, y1, y2, y3, y4, _, yl⟩ := HG.out
  simp only at x0 x1 x2 x3 x4 y0 y1 y2 y3 y4
  unfold sameF
  generalize decide (Hd.mk hn1 hk hu' hh = Hd.mk gn gk gu gh) = E at *
  go_enter Tryz.func17, Tryz.ntmps17
  go_upto_region 1 with fail
  rw [← hW0]
  clear hW0
  cases E with
  | false =>
    go_wp2
    go_ret
    exact ⟨rfl, HB.out⟩
  | true =>
    by_cases hne : L.length = M.length
    · have dne : ((L.length : Int) == (M.length : Int)) = true := by simp; omega
      have dne2 : (L.length == M.length) = true := by simpa using hne
      have HNE := Lib.hid hne
      have HL1 := Lib.hid hl1
      have HL2 := Lib.hid hl2
      have hx4 : ∀ z, Below W0.heap.size W0 z → z.cell? ⟨w.heap.size, 4, none⟩ = some (.slice A L.length cap) := fun z hz => (hz.cell (p := ⟨w.heap.size, 4, none⟩) xl).trans x4
      have hy4 : ∀ z, Below W0.heap.size W0 z → z.cell? ⟨w.heap.size + 1, 4, none⟩ = some (.slice A' M.length cap') := fun z hz => (hz.cell (p := ⟨w.heap.size + 1, 4, none⟩) yl).trans y4
      rw [← hne] at hlc' dne2 dne y4 hy4 ⊢
      clear hl1 hl2 hne
      go_wp2_with fail
      clear x0 x1 x2 x3 x4 y0 y1 y2 y3 y4 xl yl he
      go_loopw [5] (fun s wr => ∃ k : Nat, k ≤ L.length ∧ s = .int .i64 (k : Nat) ∧ Hid (sameRow (pts L) (pts M) = sameRow ((pts L).drop k) ((pts M).drop k)) ∧ Below W0.heap.size W0 wr) (fun s _ => L.length - (intOf s).toNat)
      case atStart => exact ⟨0, Nat.zero_le _, rfl, rfl, Below.refl _ _⟩
      case round =>
        obtain ⟨k, hk, rfl, H, hb⟩ := hrel
        have x4 := hx4 _ hb
        have y4 := hy4 _ hb
        by_cases hkl : k < L.length
        · obtain ⟨b, off, rfl, hbs, hc⟩ := HR.out (by omega)
          have hkm : k < M.length := by have := HNE.out; omega
          obtain ⟨b2, off2, rfl, hbs2, hc2⟩ := HR'.out (by omega)
          obtain ⟨x, hx, hxp⟩ := ps_get hkl
          obtain ⟨y, hy, hyp⟩ := ps_get hkm
          have hix := HP.out x (List.mem_of_getElem? hx)
          have hiy := HP'.out y (List.mem_of_getElem? hy)
          obtain ⟨c0, c1, c2, c3, c4, c5, c6, c7, c8⟩ := pr_cells hc hx
          obtain ⟨e0, e1, e2, e3, e4, e5, e6, e7, e8⟩ := pr_cells hc2 hy
          have hcp := Lib.hid (fun W (hW : Below W0.heap.size W0 W) => rsamepoints_calls x.1 y.1 x.2 y.2 W (hix.1.below (trans9 HB.out hW)) (hiy.1.below (trans9 HB.out hW)) hix.2 hiy.2)
          have hat := Lib.hid (sameRow_at hxp hyp H.out)
          obtain ⟨A1, n1, cap1, hx1⟩ : ∃ A1 n1 cap1, x.1 = .slice A1 n1 cap1 := by obtain ⟨_, _, h, _⟩ := hix.1; exact ⟨_, _, _, h⟩
          obtain ⟨A2, n2, cap2, hy1⟩ : ∃ A1 n1 cap1, y.1 = .slice A1 n1 cap1 := by obtain ⟨_, _, h, _⟩ := hiy.1; exact ⟨_, _, _, h⟩
          obtain ⟨xv, p⟩ := x
          obtain ⟨yv, q⟩ := y
          simp only at hx1 hy1
          subst hx1 hy1
          obtain ⟨pl, ro, inf, bm, bs, m, s, td, ti⟩ := p
          obtain ⟨ql, ro2, inf2, bm2, bs2, m2, s2, td2, ti2⟩ := q
          have hR : ∀ o u, w.cell? ⟨b, o, none⟩ = some u → ∀ z, Below W0.heap.size W0 z → z.cell? ⟨b, o, none⟩ = some u := fun o u hu z hz => ((trans9 HB.out hz).cell (p := ⟨b, o, none⟩) hbs).trans hu
          have hR2 : ∀ o u, w.cell? ⟨b2, o, none⟩ = some u → ∀ z, Below W0.heap.size W0 z → z.cell? ⟨b2, o, none⟩ = some u := fun o u hu z hz => ((trans9 HB.out hz).cell (p := ⟨b2, o, none⟩) hbs2).trans hu
          simp only at c0 c1 c2 c3 c4 c5 c6 c7 c8 e0 e1 e2 e3 e4 e5 e6 e7 e8
          have r0 := hR _ _ c0
          have r1 := hR _ _ c1
          have r2 := hR _ _ c2
          have r3 := hR _ _ c3
          have r4 := hR _ _ c4
          have r5 := hR _ _ c5
          have r6 := hR _ _ c6
          have r7 := hR _ _ c7
          have r8 := hR _ _ c8
          have s0' := hR2 _ _ e0
          have s1' := hR2 _ _ e1
          have s2' := hR2 _ _ e2
          have s3' := hR2 _ _ e3
          have s4' := hR2 _ _ e4
          have s5' := hR2 _ _ e5
          have s6' := hR2 _ _ e6
          have s7' := hR2 _ _ e7
          have s8' := hR2 _ _ e8
          have hk1 : (k : Int) < (L.length : Int) := by omega
          have hk2 : (0 : Int) ≤ (k : Int) := by omega
          clear hc hc2 c0 c1 c2 c3 c4 c5 c6 c7 c8 e0 e1 e2 e3 e4 e5 e6 e7 e8 hR hR2 hx hy hxp hyp hix hiy hbs hbs2 hkm
          generalize sameP _ _ = C at *
          cases C with
          | true =>
            have hr := Lib.hid (hat.out.1 rfl)
            clear hat
            go_wp2_with fail
            go_region_held3 (fun z => Below W0.heap.size W0 z)
              (((repeat' first | assumption | exact Below.refl _ _ | exact Nat.le_refl _ | apply kp_alloc | apply kp_set | apply Below.drew | omega); done))
              ((first
                | (go_at_call 20; refine (hcp.out _ (by (repeat' first | assumption | apply Below.drew))).mono ?_; rintro e w3 ⟨rfl, b3⟩; have k3 : Below W0.heap.size W0 w3 := (by refine trans9 ?_ b3; (repeat' first | assumption | exact Below.refl _ _ | exact Nat.le_refl _ | apply kp_alloc | apply kp_set | apply Below.drew | omega)))))
            all_goals
              go_wp2_with fail
              go_roundw
              case rel => exact ⟨k + 1, hkl, by go_num, hr.out, k3⟩
              case measure => simp [intOf]; omega
          | false =>
            have hr := Lib.hid (hat.out.2 rfl)
            clear hat
            go_wp2_with fail
            go_region_held3 (fun z => Below W0.heap.size W0 z)
              (((repeat' first | assumption | exact Below.refl _ _ | exact Nat.le_refl _ | apply kp_alloc | apply kp_set | apply Below.drew | omega); done))
              ((first
                | (go_at_call 20; refine (hcp.out _ (by (repeat' first | assumption | apply Below.drew))).mono ?_; rintro e w3 ⟨rfl, b3⟩; have k3 : Below W0.heap.size W0 w3 := (by refine trans9 ?_ b3; (repeat' first | assumption | exact Below.refl _ _ | exact Nat.le_refl _ | apply kp_alloc | apply kp_set | apply Below.drew | omega)))))
            all_goals
              go_wp2_with fail
              go_ret
              exact ⟨by rw [hr.out]; rfl, trans9 HB.out k3⟩
        · have hr := Lib.hid (sameRow_end H.out (by rw [HL1.out]; omega) (by rw [HL2.out]; have := HNE.out; omega))
          go_wp2
          go_ret
          exact ⟨by rw [hr.out]; rfl, trans9 HB.out hb⟩
    · have dne : ((L.length : Int) == (M.length : Int)) = false := by rw [beq_eq_false_iff_ne]; omega
      have dne2 : (L.length == M.length) = false := by rw [beq_eq_false_iff_ne]; omega
      have hr := Lib.hid (sameRow_ne (l := pts L) (m := pts M) (by rw [hl1, hl2]; exact hne))
      clear hl1 hl2
      go_wp2
      go_ret
      exact ⟨by rw [hr.out]; rfl, HB.out⟩

set_option maxHeartbeats 16000000 in
theorem rsamefams_calls (L M : List Fs) (v u : Value) (w : World) (hv : FmRow w v L) (hu : FmRow w u M) (hn : FmFew L) :
    Calls Tryz.prog 28 #[v, u] w fun e w' => e = .returned (.bool (sameG sameF2 (fms L) (fms M))) ∧ Below w.heap.size w w' := by
  have HP := Lib.hid hv.2
  have HP' := Lib.hid hu.2
  have hn1000 := hn.n
  have HNF := Lib.hid hn
  obtain ⟨A, cap, rfl, hlc, hcm, hnil, hrow⟩ := hv.1
  obtain ⟨A', cap', rfl, hlc', hcm', hnil', hrow'⟩ := hu.1
  unfold maxLen at hcm hcm'
  have HR := Lib.hid hrow
  have HR' := Lib.hid hrow'
  have hl1 : (fms L).length = L.length := by simp [fms]
  have hl2 : (fms M).length = M.length := by simp [fms]
  clear hrow hnil hv hrow' hnil' hu hn
  go_enter Tryz.func28, Tryz.ntmps28
  by_cases hne : L.length = M.length
  · have dne : ((L.length : Int) == (M.length : Int)) = true := by simp; omega
    have dne2 : (L.length == M.length) = true := by simpa using hne
    have HNE := Lib.hid hne
    have HL1 := Lib.hid hl1
    have HL2 := Lib.hid hl2
    rw [← hne] at hlc' dne2 dne ⊢
    clear hl1 hl2 hne
    go_wp2_with fail
    go_loopw [5] (fun s wr => ∃ k : Nat, k ≤ L.length ∧ s = .int .i64 (k : Nat) ∧ Hid (sameG sameF2 (fms L) (fms M) = sameG sameF2 ((fms L).drop k) ((fms M).drop k)) ∧ Below w.heap.size w wr) (fun s _ => L.length - (intOf s).toNat)
    case atStart => exact ⟨0, Nat.zero_le _, rfl, rfl, Below.refl _ _⟩
    case round =>
      obtain ⟨k, hk, rfl, H, hb⟩ := hrel
      by_cases hkl : k < L.length
      · obtain ⟨b, off, rfl, hbs, hc⟩ := HR.out (by omega)
        have hkm : k < M.length := by have := HNE.out; omega
        obtain ⟨b2, off2, rfl, hbs2, hc2⟩ := HR'.out (by omega)
        obtain ⟨x, hx, hxp⟩ := fs_get hkl
        obtain ⟨y, hy, hyp⟩ := fs_get hkm
        have hxm := List.mem_of_getElem? hx
        have hix := HP.out x hxm
        have hiy := HP'.out y (List.mem_of_getElem? hy)
        obtain ⟨c0, c1, c2, c3, c4⟩ := fr_cells hc hx
        obtain ⟨e0, e1, e2, e3, e4⟩ := fr_cells hc2 hy
        have hcp := Lib.hid (fun W (hW : Below w.heap.size w W) => rsamefam_calls x.hd y.hd x.L y.L x.v y.v W (hix.1.below hW) (hiy.1.below hW) (HNF.out.p x hxm))
        have hat := sameG_at (g := sameF2) hxp hyp H.out
        rw [show sameF2 (fm x) (fm y) = sameF x.hd y.hd (pts x.L) (pts y.L) from rfl] at hat
        have HAT := Lib.hid hat
        obtain ⟨A1, n1, cap1, hx1⟩ : ∃ A1 n1 cap1, x.v = .slice A1 n1 cap1 := by obtain ⟨_, _, h, _⟩ := hix.1.1; exact ⟨_, _, _, h⟩
        obtain ⟨A2, n2, cap2, hy1⟩ : ∃ A1 n1 cap1, y.v = .slice A1 n1 cap1 := by obtain ⟨_, _, h, _⟩ := hiy.1.1; exact ⟨_, _, _, h⟩
        obtain ⟨⟨xn, xk, xu, xh⟩, xv, xL⟩ := x
        obtain ⟨⟨yn, yk, yu, yh⟩, yv, yL⟩ := y
        simp only at hx1 hy1
        subst hx1 hy1
        have hR : ∀ o u, w.cell? ⟨b, o, none⟩ = some u → ∀ z, Below w.heap.size w z → z.cell? ⟨b, o, none⟩ = some u := fun o u hu z hz => (hz.cell (p := ⟨b, o, none⟩) hbs).trans hu
        have hR2 : ∀ o u, w.cell? ⟨b2, o, none⟩ = some u → ∀ z, Below w.heap.size w z → z.cell? ⟨b2, o, none⟩ = some u := fun o u hu z hz => (hz.cell (p := ⟨b2, o, none⟩) hbs2).trans hu
        simp only at c0 c1 c2 c3 c4 e0 e1 e2 e3 e4 hcp HAT
        have r0 := hR _ _ c0
        have r1 := hR _ _ c1
        have r2 := hR _ _ c2
        have r3 := hR _ _ c3
        have r4 := hR _ _ c4
        have s0' := hR2 _ _ e0
        have s1' := hR2 _ _ e1
        have s2' := hR2 _ _ e2
        have s3' := hR2 _ _ e3
        have s4' := hR2 _ _ e4
        have hk1 : (k : Int) < (L.length : Int) := by omega
        have hk2 : (0 : Int) ≤ (k : Int) := by omega
        clear hc hc2 c0 c1 c2 c3 c4 e0 e1 e2 e3 e4 hR hR2 hx hy hxp hyp hix hiy hbs hbs2 hkm hat hxm
        generalize sameF _ _ _ _ = C at *
        cases C with
        | true =>
          have hr := Lib.hid (HAT.out.1 rfl)
          clear HAT
          go_wp2_with fail
          go_region_held3 (fun z => Below w.heap.size w z)
            (((repeat' first | assumption | exact Below.refl _ _ | exact Nat.le_refl _ | apply kp_alloc | apply kp_set | apply Below.drew | omega); done))
            ((first
              | (go_at_call 17; refine (hcp.out _ (by (repeat' first | assumption | apply Below.drew))).mono ?_; rintro e w3 ⟨rfl, b3⟩; have k3 : Below w.heap.size w w3 := (by refine trans9 ?_ b3; (repeat' first | assumption | exact Below.refl _ _ | exact Nat.le_refl _ | apply kp_alloc | apply kp_set | apply Below.drew | omega)))))
          all_goals
            go_wp2_with fail
            go_roundw
            case rel => exact ⟨k + 1, hkl, by go_num, hr.out, k3⟩
            case measure => simp [intOf]; omega
        | false =>
          have hr := Lib.hid (HAT.out.2 rfl)
          clear HAT
          go_wp2_with fail
          go_region_held3 (fun z => Below w.heap.size w z)
            (((repeat' first | assumption | exact Below.refl _ _ | exact Nat.le_refl _ | apply kp_alloc | apply kp_set | apply Below.drew | omega); done))
            ((first
              | (go_at_call 17; refine (hcp.out _ (by (repeat' first | assumption | apply Below.drew))).mono ?_; rintro e w3 ⟨rfl, b3⟩; have k3 : Below w.heap.size w w3 := (by refine trans9 ?_ b3; (repeat' first | assumption | exact Below.refl _ _ | exact Nat.le_refl _ | apply kp_alloc | apply kp_set | apply Below.drew | omega)))))
          all_goals
            go_wp2_with fail
            go_ret
            exact ⟨by rw [hr.out]; rfl, k3⟩
      · have hr := Lib.hid (sameG_end H.out (by rw [HL1.out]; omega) (by rw [HL2.out]; have := HNE.out; omega))
        go_wp2
        go_ret
        exact ⟨by rw [hr.out]; rfl, hb⟩
  · have dne : ((L.length : Int) == (M.length : Int)) = false := by rw [beq_eq_false_iff_ne]; omega
    have dne2 : (L.length == M.length) = false := by rw [beq_eq_false_iff_ne]; omega
    have hr := Lib.hid (sameG_ne (g := sameF2) (l := fms L) (m := fms M) (by rw [hl1, hl2]; exact hne))
    clear hl1 hl2
    go_wp2
    go_ret
    exact ⟨by rw [hr.out]; rfl, Below.refl _ _⟩

set_option maxHeartbeats 4000000 in
theorem brsame_calls (t s : List UInt8) (L M : List Fs) (v u : Value) (w : World) (hv : FmRow w v L) (hu : FmRow w u M) (hn : FmFew L) :
    Calls Tryz.prog 12 #[batv t v, batv s u] w fun e w' => e = .returned (.bool (sameB t s (fms L) (fms M))) ∧ Below w.heap.size w w' := by
  have hb0 : Below w.heap.size w ((w.alloc (.cells #[.string (str t), v] 28)).alloc (.cells #[.string (str s), u] 28)) := kp_alloc (kp_alloc (Below.refl _ _) _) _
  have hc := Lib.hid (rsamefams_calls L M v u _ (hv.below hb0) (hu.below hb0) hn)
  unfold sameB
  obtain ⟨A, cap, hv1⟩ : ∃ A cap, v = .slice A L.length cap := by obtain ⟨A, cap, h, _⟩ := hv.1; exact ⟨A, cap, h⟩
  obtain ⟨A2, cap2, hu1⟩ : ∃ A cap, u = .slice A M.length cap := by obtain ⟨A, cap, h, _⟩ := hu.1; exact ⟨A, cap, h⟩
  subst hv1 hu1
  generalize sameG sameF2 (fms L) (fms M) = R at *
  generalize L.length = n at *
  generalize M.length = n2 at *
  have HB := Lib.hid hb0
  clear hb0 hv hu hn
  by_cases hts : t = s
  · subst hts
    rw [decide_eq_true rfl]
    go_enter Tryz.func12, Tryz.ntmps12
    go_wp2_with fail
    refine hc.out.mono ?_; rintro e w1 ⟨rfl, b1⟩
    have k1 := Lib.hid (trans9 HB.out b1)
    clear b1
    go_wp2
    go_ret
    exact ⟨rfl, k1.out⟩
  · have d1 : (t == s) = false := by simpa using hts
    have d2 : decide (t = s) = false := decide_eq_false hts
    rw [d2]
    go_enter Tryz.func12, Tryz.ntmps12
    go_wp2
    go_ret
    exact ⟨rfl, HB.out⟩

end Go.Proofs.YtjeefgamkoeiaaaGreatDoor
