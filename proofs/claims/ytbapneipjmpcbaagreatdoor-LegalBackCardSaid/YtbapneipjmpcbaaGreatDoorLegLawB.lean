/- The walk of the law LegalBack (layer 15). -/
import Derived.Test.YtbapneipjmpcbaaGreatDoorLegKn
import Derived.Test.YtbapneipjmpcbaaGreatDoorBatW
import Derived.Test.YtbapneipjmpcbaaGreatDoorRfC
import Derived.Deep.RegionHeld3
import Derived.Deep.DrawnRows
import Derived.Deep.DeepCutAuto
set_option maxRecDepth 100000
set_option linter.unusedVariables false
set_option linter.unusedSimpArgs false
namespace Go.Proofs.YtbapneipjmpcbaaGreatDoor
open Go.RowKit Go.Sort Dc
attribute [local go_sem ↓] Go.wp_at_zero Go.wp_at_succ

set_option maxHeartbeats 16000000 in
theorem legback_walk (t : List UInt8) (F : List Fs) (v : Value) (how : Int) (w : World) (hv : FmRow w v F) (ht : t.length ≤ maxLen) (hh0 : 0 ≤ how) (hh1 : how ≤ 255) (hT : ChT w) (hM : MxT w) (hS : ShPl w) :
    Calls Tryz.prog 4 #[batv t v, .int .u8 how] w fun e w' => e = .returned (.bool true) ∧ Below w.heap.size w w' := by
  have k0 := kp_alloc (Below.refl w.heap.size w) (.cells #[.string (str t), v] 24)
  have K0 := Lib.hid k0
  have B0 := Lib.hid (BatAt.new w t v 24)
  have R0 := Lib.hid (hv.below k0)
  have hT0 := Lib.hid (lgknown_calls _ (hT.below k0) (hM.below k0) ⟨sh_below hS.1 k0, hS.2.below k0⟩)
  have hTo := Lib.hid (fun p m s (F : List Fs) v X (h : Below w.heap.size w X) (hv : FmRow X v F) (hf : FmFew F) (hs : s.length ≤ maxLen) => legto_calls p m s F v X hv hf hs (hT.below h) ⟨sh_below hS.1 h, hS.2.below h⟩)
  have hFrom := Lib.hid (fun p m s (F : List Fs) v X (h : Below w.heap.size w X) (hv : FmRow X v F) (hf : FmFew F) (hs : s.length ≤ maxLen) => legfrom_calls p m s F v X hv hf hs (hT.below h) (hM.below h) ⟨sh_below hS.1 h, hS.2.below h⟩)
  have hIs := Lib.hid (fun p s (F : List Fs) v X (h : Below w.heap.size w X) (hv : FmRow X v F) => isleg_calls p s F v X hv (hT.below h))
  have HTL := Lib.hid ht
  obtain ⟨A, n, cap, hv1⟩ : ∃ A n cap, v = .slice A n cap := by obtain ⟨A, cap, he, _⟩ := hv.1; exact ⟨A, _, cap, he⟩
  have hnl : n = F.length := by obtain ⟨A1, cap1, he, _⟩ := hv.1; rw [hv1] at he; exact (Value.slice.inj he).2.1
  subst hv1
  subst hnl
  clear k0 hv hT hM hS
  obtain ⟨q, hq, hq4⟩ : ∃ q : Nat, how % 4 = (q : Int) ∧ q < 4 := ⟨(how % 4).toNat, by omega, by omega⟩
  have t1 : how.tmod 4 = (q : Int) := by rw [Int.tmod_eq_emod_of_nonneg hh0]; exact hq
  have t2 : IntKind.u8.wrap (q : Int) = (q : Int) := IntWalk.u8_in _ (by omega)
  have t3 : IntKind.i64.wrap (q : Int) = (q : Int) := IntWalk.i64_in _ (by omega)
  have t4 : IntKind.i64.wrap (1 + (q : Int)) = 1 + (q : Int) := IntWalk.i64_in _ (by omega)
  have HP : Hid (1 ≤ 1 + (q : Int) ∧ 1 + (q : Int) ≤ 4) := Lib.hid (by omega)
  clear hq4
  go_enter Tryz.func4, Tryz.ntmps4
  go_wp2_with fail
  refine hT0.out.mono ?_; rintro e w1 ⟨rfl, b1⟩
  have K1 := Lib.hid (trans9 K0.out b1)
  have B1 := Lib.hid (B0.out.below b1)
  have R1 := Lib.hid (R0.out.below b1)
  clear b1 hT0 K0 B0 R0
  obtain ⟨x0, x1, xf, xl⟩ := B1.out
  go_wp2_with fail
  refine (wide_calls t F _ _ R1.out).mono ?_; rintro e w2 ⟨hW, b2⟩
  have K2 := Lib.hid (trans9 K1.out b2)
  have B2 := Lib.hid (B1.out.below b2)
  have R2 := Lib.hid (R1.out.below b2)
  clear b2 K1 B1 R1 x0 x1 xf xl
  obtain ⟨x0, x1, xf, xl⟩ := B2.out
  rcases hW.ways with rfl | ⟨rfl, hfew⟩
  · go_wp2
    go_ret
    exact ⟨rfl, K2.out⟩
  have HF := Lib.hid hfew
  clear hfew
  go_wp2_with fail
  refine (rcheck_calls t F _ _ R2.out HF.out HTL.out).mono ?_; rintro e w3 ⟨rfl, b3⟩
  have K3 := Lib.hid (trans9 K2.out b3)
  have B3 := Lib.hid (B2.out.below b3)
  have R3 := Lib.hid (R2.out.below b3)
  clear b3 K2 B2 R2 x0 x1 xf xl
  obtain ⟨x0, x1, xf, xl⟩ := B3.out
  by_cases hc : chk t (fms F) = 0
  rotate_left
  · have dz : decide (chk t (fms F) = 0) = false := decide_eq_false hc
    have bz : (chk t (fms F) == 0) = false := by simpa using hc
    generalize chk t (fms F) = zz at *
    go_wp2
    go_ret
    exact ⟨rfl, K3.out⟩
  rw [hc]
  have hto := Lib.hid (hTo.out (1 + (q : Int)) 0 t F _ w3 K3.out R3.out HF.out HTL.out)
  go_wp2_with fail
  rcases Lg.to_esc HP.out hc with h14 | ⟨M, h0, hfr, hib, hck, hnp⟩
  · rw [h14] at hto
    refine hto.out.mono ?_; rintro e w4 ⟨⟨A4, n4, c4, F4, rfl, hF4, hf4⟩, b4⟩
    simp only [tO, Lg.c0] at hf4 ⊢
    have hn4 : n4 = 0 := by
      obtain ⟨A', cap', he, _⟩ := hF4.1
      have h1 : fms F4 = [] := hf4
      have h2 := congrArg List.length h1
      rw [List.length_map] at h2
      have h3 := (Value.slice.inj he).2.1
      have : F4.length = 0 := h2
      omega
    subst hn4
    have K4 := Lib.hid (trans9 K3.out b4)
    have hq2 := eqlc_self
    clear hto hF4 hf4 b4 x0 x1 xf xl
    go_wp2_with fail
    go_ret
    exact ⟨rfl, by repeat (first | exact K4.out | apply kp_alloc)⟩
  rw [h0] at hto
  refine hto.out.mono ?_; rintro e w4 ⟨⟨A4, n4, c4, F4, rfl, hF4, hf4⟩, b4⟩
  simp only [tO, Lg.c0] at hf4 ⊢
  replace hf4 : fms F4 = M := hf4
  have K4 := Lib.hid (trans9 K3.out b4)
  have B4 := Lib.hid (B3.out.below b4)
  have R4 := Lib.hid (R3.out.below b4)
  clear hto b4 K3 B3 R3 x0 x1 xf xl
  obtain ⟨e1, e2, b5⟩ := blk2_new w4 (.cells #[.string (str t), .slice A4 n4 c4] 24) (.cells #[.string (str []), .string (str [])] 30)
  have K5 := Lib.hid (trans9 K4.out b5)
  have B5 := Lib.hid (B4.out.below b5)
  have R5 := Lib.hid (R4.out.below b5)
  have X5 := Lib.hid (bat_heap e1)
  have XR := Lib.hid (hF4.below b5)
  have XM := Lib.hid hf4
  have hM30 : FmFew F4 := few_of_chk (t := t) (by rw [hf4]; exact hck)
  have HFM := Lib.hid hM30
  clear K4 B4 R4 b5 e1 e2 hF4 hf4 hM30
  obtain ⟨x0, x1, xf, xl⟩ := X5.out
  go_wp2_with fail
  have hfrom := Lib.hid (hFrom.out (1 + (q : Int)) 0 t F4 _ _ K5.out XR.out HFM.out HTL.out)
  rw [XM.out, hfr] at hfrom
  refine hfrom.out.mono ?_; rintro e w6 ⟨⟨A6, n6, c6, F6, rfl, hF6, hf6⟩, b6⟩
  simp only [tO] at hf6 ⊢
  replace hf6 : fms F6 = fms F := hf6
  have K6 := Lib.hid (trans9 K5.out b6)
  have B6 := Lib.hid (B5.out.below b6)
  have R6 := Lib.hid (R5.out.below b6)
  have X6 := Lib.hid (X5.out.below b6)
  have XR6 := Lib.hid (XR.out.below b6)
  clear hfrom b6 K5 B5 R5 X5 XR x0 x1 xf xl
  go_upto_region 10 with fail
  have ka := kp_alloc (Below.refl w6.heap.size w6) (.cells #[.string (str t), .slice A6 n6 c6] 24)
  have K7 := Lib.hid (trans9 K6.out ka)
  have B7 := Lib.hid (B6.out.below ka)
  have R7 := Lib.hid (R6.out.below ka)
  have X7 := Lib.hid (X6.out.below ka)
  have XR7 := Lib.hid (XR6.out.below ka)
  have Y7 := Lib.hid (BatAt.new w6 t (.slice A6 n6 c6) 24)
  have YR7 := Lib.hid (hF6.below ka)
  have YM := Lib.hid hf6
  have HFY : Hid (FmFew F6) := Lib.hid (few_of_chk (t := t) (by rw [hf6]; exact hc))
  clear K6 B6 R6 X6 XR6 ka hF6 hf6
  generalize w6.alloc (.cells #[.string (str t), .slice A6 n6 c6] 24) = W1 at *
  generalize w6.heap.size = zy at *
  generalize w4.heap.size = zx at *
  obtain ⟨u0, u1, _, ul⟩ := B7.out
  obtain ⟨u2, u3, _, um⟩ := X7.out
  obtain ⟨u4, u5, _, un⟩ := Y7.out
  have r0 : ∀ y, Below W1.heap.size W1 y → y.cell? ⟨w.heap.size, 0, none⟩ = some (.string (str t)) := fun y h => (h.cell (p := ⟨w.heap.size, 0, none⟩) ul).trans u0
  have r1 : ∀ y, Below W1.heap.size W1 y → y.cell? ⟨w.heap.size, 1, none⟩ = some (.slice A F.length cap) := fun y h => (h.cell (p := ⟨w.heap.size, 1, none⟩) ul).trans u1
  have r2 : ∀ y, Below W1.heap.size W1 y → y.cell? ⟨zx, 0, none⟩ = some (.string (str t)) := fun y h => (h.cell (p := ⟨zx, 0, none⟩) um).trans u2
  have r3 : ∀ y, Below W1.heap.size W1 y → y.cell? ⟨zx, 1, none⟩ = some (.slice A4 n4 c4) := fun y h => (h.cell (p := ⟨zx, 1, none⟩) um).trans u3
  have r4 : ∀ y, Below W1.heap.size W1 y → y.cell? ⟨zy, 0, none⟩ = some (.string (str t)) := fun y h => (h.cell (p := ⟨zy, 0, none⟩) un).trans u4
  have r5 : ∀ y, Below W1.heap.size W1 y → y.cell? ⟨zy, 1, none⟩ = some (.slice A6 n6 c6) := fun y h => (h.cell (p := ⟨zy, 1, none⟩) un).trans u5
  have cIs := Lib.hid (fun y (h : Below W1.heap.size W1 y) => (show Calls Tryz.prog 14 #[.int .i64 (1 + (q : Int)), batv t (.slice A4 n4 c4)] y fun e w' => e = .returned (.bool true) ∧ Below y.heap.size y w' from by
    have := hIs.out (1 + (q : Int)) t F4 _ y (K7.out.trans (h.mono K7.out.size)) (XR7.out.below h)
    rwa [XM.out, hib] at this))
  have cCk := Lib.hid (fun y (h : Below W1.heap.size W1 y) => (show Calls Tryz.prog 16 #[batv t (.slice A4 n4 c4)] y fun e w' => e = .returned (.int .i64 0) ∧ Below y.heap.size y w' from by
    have := rcheck_calls t F4 _ y (XR7.out.below h) HFM.out HTL.out
    rwa [XM.out, hck] at this))
  have cPx := Lib.hid (fun y (h : Below W1.heap.size W1 y) => (show Calls Tryz.prog 17 #[.slice A4 n4 c4] y fun e w' => e = .returned (.int .i64 (nPts (fms F) : Nat)) ∧ Below y.heap.size y w' from by
    have := rpoints_calls F4 _ y (XR7.out.below h) HFM.out
    rwa [XM.out, hnp] at this))
  have cPb := Lib.hid (fun y (h : Below W1.heap.size W1 y) => rpoints_calls F _ y (R7.out.below h) HF.out)
  have cSm := Lib.hid (fun y (h : Below W1.heap.size W1 y) => (show Calls Tryz.prog 13 #[batv t (.slice A6 n6 c6), batv t (.slice A F.length cap)] y fun e w' => e = .returned (.bool true) ∧ Below y.heap.size y w' from by
    have := brsame_calls t t F6 F (.slice A6 n6 c6) (.slice A F.length cap) y (YR7.out.below h) (R7.out.below h) HFY.out
    rwa [YM.out, sameB_refl] at this))
  have hcz : (chk t (fms F) : Int) = 0 := hc
  generalize nPts (fms F) = np at *
  clear hTo hFrom hIs h0 hfr hib hck hnp hc hcz HF HFM HFY XM YM R7 XR7 YR7 B7 X7 Y7 u0 u1 u2 u3 u4 u5 ul um un hh0 hh1 hq t1 t2 t3 t4
  go_region_held3 (fun y => Below W1.heap.size W1 y)
    (((repeat' first | assumption | exact Below.refl _ _ | exact Nat.le_refl _ | apply kp_alloc | apply kp_set | apply Below.drew | omega); done))
    ((first
      | (go_at_call 14; refine (cIs.out _ (by (repeat' first | assumption | exact Below.refl _ _ | apply kp_alloc | apply Below.drew))).mono ?_; rintro e w11 ⟨rfl, b11⟩; have k11 : Below W1.heap.size W1 w11 := (by refine trans9 ?_ b11; (repeat' first | assumption | exact Below.refl _ _ | exact Nat.le_refl _ | apply kp_alloc | apply kp_set | apply Below.drew | omega)))
      | (go_at_call 16; refine (cCk.out _ (by (repeat' first | assumption | exact Below.refl _ _ | apply kp_alloc | apply Below.drew))).mono ?_; rintro e w12 ⟨rfl, b12⟩; have k12 : Below W1.heap.size W1 w12 := (by refine trans9 ?_ b12; (repeat' first | assumption | exact Below.refl _ _ | exact Nat.le_refl _ | apply kp_alloc | apply kp_set | apply Below.drew | omega)))
      | (go_at_call_of 17 (Value.slice A4 n4 c4); refine (cPx.out _ (by (repeat' first | assumption | exact Below.refl _ _ | apply kp_alloc | apply Below.drew))).mono ?_; rintro e w13 ⟨rfl, b13⟩; have k13 : Below W1.heap.size W1 w13 := (by refine trans9 ?_ b13; (repeat' first | assumption | exact Below.refl _ _ | exact Nat.le_refl _ | apply kp_alloc | apply kp_set | apply Below.drew | omega)))
      | (go_at_call_of 17 (Value.slice A F.length cap); refine (cPb.out _ (by (repeat' first | assumption | exact Below.refl _ _ | apply kp_alloc | apply Below.drew))).mono ?_; rintro e w14 ⟨rfl, b14⟩; have k14 : Below W1.heap.size W1 w14 := (by refine trans9 ?_ b14; (repeat' first | assumption | exact Below.refl _ _ | exact Nat.le_refl _ | apply kp_alloc | apply kp_set | apply Below.drew | omega)))
      | (go_at_call 13; refine (cSm.out _ (by (repeat' first | assumption | exact Below.refl _ _ | apply kp_alloc | apply Below.drew))).mono ?_; rintro e w15 ⟨rfl, b15⟩; have k15 : Below W1.heap.size W1 w15 := (by refine trans9 ?_ b15; (repeat' first | assumption | exact Below.refl _ _ | exact Nat.le_refl _ | apply kp_alloc | apply kp_set | apply Below.drew | omega)))))
  have KE := Lib.hid (trans9 K7.out k15)
  clear k11 k12 k13 k14 k15 b11 b12 b13 b14 b15 r0 r1 r2 r3 r4 r5
  go_wp2_with fail
  go_ret
  exact ⟨rfl, KE.out⟩

end Go.Proofs.YtbapneipjmpcbaaGreatDoor
