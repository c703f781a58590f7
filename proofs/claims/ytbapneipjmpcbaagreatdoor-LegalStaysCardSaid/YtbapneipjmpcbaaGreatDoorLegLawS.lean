/- The walk of the law LegalStays (layer 15). -/
import Derived.Test.YtbapneipjmpcbaaGreatDoorLegKn
import Derived.Test.YtbapneipjmpcbaaGreatDoorBatW
import Derived.Test.YtbapneipjmpcbaaGreatDoorRfC
import Derived.Deep.RegionHeld3
import Derived.Deep.DrawnRows
import Derived.Deep.DeepCutAuto
set_option maxRecDepth 100000
set_option linter.unusedVariables false
set_option linter.unusedSimpArgs false
namespace Go.Proofs.YtbapneipjmpcbaaGreatDoor
open Go.RowKit Go.Sort Dc
attribute [local go_sem ↓] Go.wp_at_zero Go.wp_at_succ

set_option maxHeartbeats 16000000 in
theorem legstays_walk (t : List UInt8) (F : List Fs) (v : Value) (how : Int) (w : World) (hv : FmRow w v F) (ht : t.length ≤ maxLen) (hh0 : 0 ≤ how) (hh1 : how ≤ 255) (hT : ChT w) (hM : MxT w) (hS : ShPl w) :
    Calls Tryz.prog 6 #[batv t v, .int .u8 how] w fun e w' => e = .returned (.bool true) ∧ Below w.heap.size w w' := by
  have k0 := kp_alloc (Below.refl w.heap.size w) (.cells #[.string (str t), v] 24)
  have K0 := Lib.hid k0
  have B0 := Lib.hid (BatAt.new w t v 24)
  have R0 := Lib.hid (hv.below k0)
  have hT0 := Lib.hid (lgknown_calls _ (hT.below k0) (hM.below k0) ⟨sh_below hS.1 k0, hS.2.below k0⟩)
  have hTo := Lib.hid (fun p m s (F : List Fs) v X (h : Below w.heap.size w X) (hv : FmRow X v F) (hf : FmFew F) (hs : s.length ≤ maxLen) => legto_calls p m s F v X hv hf hs (hT.below h) ⟨sh_below hS.1 h, hS.2.below h⟩)
  have hFrom := Lib.hid (fun p m s (F : List Fs) v X (h : Below w.heap.size w X) (hv : FmRow X v F) (hf : FmFew F) (hs : s.length ≤ maxLen) => legfrom_calls p m s F v X hv hf hs (hT.below h) (hM.below h) ⟨sh_below hS.1 h, hS.2.below h⟩)
  have hIs := Lib.hid (fun p s (F : List Fs) v X (h : Below w.heap.size w X) (hv : FmRow X v F) => isleg_calls p s F v X hv (hT.below h))
  have HTL := Lib.hid ht
  obtain ⟨A, n, cap, hv1⟩ : ∃ A n cap, v = .slice A n cap := by obtain ⟨A, cap, he, _⟩ := hv.1; exact ⟨A, _, cap, he⟩
  have hnl : n = F.length := by obtain ⟨A1, cap1, he, _⟩ := hv.1; rw [hv1] at he; exact (Value.slice.inj he).2.1
  subst hv1
  subst hnl
  clear k0 hv hT hM hS
  obtain ⟨q, hq, hq4⟩ : ∃ q : Nat, how % 4 = (q : Int) ∧ q < 4 := ⟨(how % 4).toNat, by omega, by omega⟩
  have t1 : how.tmod 4 = (q : Int) := by rw [Int.tmod_eq_emod_of_nonneg hh0]; exact hq
  have t2 : IntKind.u8.wrap (q : Int) = (q : Int) := IntWalk.u8_in _ (by omega)
  have t3 : IntKind.i64.wrap (q : Int) = (q : Int) := IntWalk.i64_in _ (by omega)
  have t4 : IntKind.i64.wrap (1 + (q : Int)) = 1 + (q : Int) := IntWalk.i64_in _ (by omega)
  have HP : Hid (1 ≤ 1 + (q : Int) ∧ 1 + (q : Int) ≤ 4) := Lib.hid (by omega)
  clear hq4
  go_enter Tryz.func6, Tryz.ntmps6
  go_wp2_with fail
  refine hT0.out.mono ?_; rintro e w1 ⟨rfl, b1⟩
  have K1 := Lib.hid (trans9 K0.out b1)
  have B1 := Lib.hid (B0.out.below b1)
  have R1 := Lib.hid (R0.out.below b1)
  clear b1 hT0 K0 B0 R0
  obtain ⟨x0, x1, xf, xl⟩ := B1.out
  go_wp2_with fail
  refine (wide_calls t F _ _ R1.out).mono ?_; rintro e w2 ⟨hW, b2⟩
  have K2 := Lib.hid (trans9 K1.out b2)
  have B2 := Lib.hid (B1.out.below b2)
  have R2 := Lib.hid (R1.out.below b2)
  clear b2 K1 B1 R1 x0 x1 xf xl
  obtain ⟨x0, x1, xf, xl⟩ := B2.out
  rcases hW.ways with rfl | ⟨rfl, hfew⟩
  · go_wp2
    go_ret
    exact ⟨rfl, K2.out⟩
  have HF := Lib.hid hfew
  clear hfew
  go_wp2_with fail
  refine (rcheck_calls t F _ _ R2.out HF.out HTL.out).mono ?_; rintro e w3 ⟨rfl, b3⟩
  have K3 := Lib.hid (trans9 K2.out b3)
  have B3 := Lib.hid (B2.out.below b3)
  have R3 := Lib.hid (R2.out.below b3)
  clear b3 K2 B2 R2 x0 x1 xf xl
  obtain ⟨x0, x1, xf, xl⟩ := B3.out
  by_cases hc : chk t (fms F) = 0
  rotate_left
  · have dz : decide (chk t (fms F) = 0) = false := decide_eq_false hc
    have bz : (chk t (fms F) == 0) = false := by simpa using hc
    generalize chk t (fms F) = zz at *
    go_wp2
    go_ret
    exact ⟨rfl, K3.out⟩
  rw [hc]
  have hto := Lib.hid (hTo.out (1 + (q : Int)) 0 t F _ w3 K3.out R3.out HF.out HTL.out)
  go_wp2_with fail
  rcases Lg.to_esc HP.out hc with h14 | ⟨M, h0, hfr, hib0, hck, hnp⟩
  · rw [h14] at hto
    refine hto.out.mono ?_; rintro e w4 ⟨⟨A4, n4, c4, F4, rfl, hF4, hf4⟩, b4⟩
    simp only [tO, Lg.c0] at hf4 ⊢
    have K4 := Lib.hid (trans9 K3.out b4)
    have B4 := Lib.hid (B3.out.below b4)
    have R4 := Lib.hid (R3.out.below b4)
    have hl0 : F4 = [] := by
      have h1 : fms F4 = [] := hf4
      have h2 := congrArg List.length h1
      rw [List.length_map] at h2
      exact List.eq_nil_of_length_eq_zero h2
    have HF4 : Hid (FmFew F4) := Lib.hid (by rw [hl0]; exact FpFew.rows ⟨by simp, fun x hx => (by cases hx), fun x hx => (by cases hx)⟩)
    clear hto b4 x0 x1 xf xl K3 B3 R3 hl0
    obtain ⟨e1, e2, b5⟩ := blk2_new w4 (.cells #[.string (str []), .slice A4 n4 c4] 24) (.cells #[.string (str []), .string (str [])] 30)
    have K5 := Lib.hid (trans9 K4.out b5)
    have B5 := Lib.hid (B4.out.below b5)
    have R5 := Lib.hid (R4.out.below b5)
    have X5 := Lib.hid (bat_heap e1)
    have XR5 := Lib.hid (hF4.below b5)
    clear K4 B4 R4 b5 e1 e2 hF4 hf4
    obtain ⟨x0, x1, xf, xl⟩ := B5.out
    have hlo := Lib.hid (hTo.out (1 + (q : Int)) 1 t F _ _ K5.out R5.out HF.out HTL.out)
    go_wp2_with fail
    refine hlo.out.mono ?_; rintro e w6 ⟨⟨A6, n6, c6, F6, rfl, hF6, hf6⟩, b6⟩
    have K6 := Lib.hid (trans9 K5.out b6)
    have B6 := Lib.hid (B5.out.below b6)
    have R6 := Lib.hid (R5.out.below b6)
    have X6 := Lib.hid (X5.out.below b6)
    have XR6 := Lib.hid (XR5.out.below b6)
    have hfl := Lg.from_loss HP.out hc
    obtain ⟨r11, h11⟩ : ∃ z, z = (Lg.toR (1 + (q : Int)) 1 t (fms F)).1 := ⟨_, rfl⟩
    obtain ⟨r12, h12⟩ : ∃ z, z = (Lg.toR (1 + (q : Int)) 1 t (fms F)).2.1.1 := ⟨_, rfl⟩
    obtain ⟨r13, h13⟩ : ∃ z, z = (Lg.toR (1 + (q : Int)) 1 t (fms F)).2.1.2 := ⟨_, rfl⟩
    obtain ⟨ty, h14y⟩ : ∃ z, z = tO (Lg.toR (1 + (q : Int)) 1 t (fms F)).2.2 t := ⟨_, rfl⟩
    have HST := Lib.hid (show Lg.isB (1 + (q : Int)) (fms F) = true → r11 = 0 ∧ ty = t ∧ fms F6 = fms F from fun h => by
      have hst := Lg.to_stay HP.out hc h
      rw [hst] at h11 h14y hf6
      exact ⟨h11, h14y, hf6⟩)
    rw [← h11, ← h12, ← h13, ← h14y]
    clear hlo b6 K5 B5 R5 X5 XR5 x0 x1 xf xl h11 h12 h13 h14y hf6
    obtain ⟨e1, e2, b7⟩ := blk2_new w6 (.cells #[.string (str ty), .slice A6 n6 c6] 24) (.cells #[.string (str r12), .string (str r13)] 30)
    have K7 := Lib.hid (trans9 K6.out b7)
    have B7 := Lib.hid (B6.out.below b7)
    have R7 := Lib.hid (R6.out.below b7)
    have X7 := Lib.hid (X6.out.below b7)
    have XR7 := Lib.hid (XR6.out.below b7)
    have Y7 := Lib.hid (bat_heap e1)
    have YR7 := Lib.hid (hF6.below b7)
    clear K6 B6 R6 X6 XR6 b7 e1 e2 hF6
    obtain ⟨x0, x1, xf, xl⟩ := B7.out
    have hlo := Lib.hid (hFrom.out (1 + (q : Int)) 1 t F _ _ K7.out R7.out HF.out HTL.out)
    rw [hfl] at hlo
    go_wp2_with fail
    refine hlo.out.mono ?_; rintro e w8 ⟨⟨A8, n8, c8, F8, rfl, hF8, hf8⟩, b8⟩
    simp only [tO] at hf8 ⊢
    replace hf8 : fms F8 = fms F := hf8
    have ka := kp_alloc (Below.refl w8.heap.size w8) (.cells #[.string (str t), .slice A8 n8 c8] 24)
    have b8' := trans9 b8 ka
    have K8 := Lib.hid (trans9 K7.out b8')
    have B8 := Lib.hid (B7.out.below b8')
    have R8 := Lib.hid (R7.out.below b8')
    have X8 := Lib.hid (X7.out.below b8')
    have XR8 := Lib.hid (XR7.out.below b8')
    have Y8 := Lib.hid (Y7.out.below b8')
    have YR8 := Lib.hid (YR7.out.below b8')
    have Z8 := Lib.hid (BatAt.new w8 t (.slice A8 n8 c8) 24)
    have cSz := Lib.hid (brsame_calls t t F8 F (.slice A8 n8 c8) (.slice A F.length cap) _ (hF8.below ka) R8.out (few_of_chk (t := t) (by rw [hf8]; exact hc)))
    rw [hf8, sameB_refl] at cSz
    clear hlo b8 b8' ka K7 B7 R7 X7 XR7 Y7 YR7 x0 x1 xf xl hF8 hf8 hfl
    obtain ⟨x0, x1, xf, xl⟩ := B8.out
    go_wp2_with fail
    refine cSz.out.mono ?_; rintro e w9 ⟨rfl, b9⟩
    have K9 := Lib.hid (trans9 K8.out b9)
    have B9 := Lib.hid (B8.out.below b9)
    have R9 := Lib.hid (R8.out.below b9)
    have X9 := Lib.hid (X8.out.below b9)
    have XR9 := Lib.hid (XR8.out.below b9)
    have Y9 := Lib.hid (Y8.out.below b9)
    have YR9 := Lib.hid (YR8.out.below b9)
    clear cSz b9 K8 B8 R8 X8 XR8 Y8 YR8 Z8 x0 x1 xf xl
    obtain ⟨x0, x1, xf, xl⟩ := B9.out
    have cIs := Lib.hid (hIs.out (1 + (q : Int)) t F _ w9 K9.out R9.out)
    go_wp2_with fail
    refine cIs.out.mono ?_; rintro e wa ⟨rfl, ba⟩
    have Ka := Lib.hid (trans9 K9.out ba)
    have Ba := Lib.hid (B9.out.below ba)
    have Ra := Lib.hid (R9.out.below ba)
    have Xa := Lib.hid (X9.out.below ba)
    have XRa := Lib.hid (XR9.out.below ba)
    have Ya := Lib.hid (Y9.out.below ba)
    have YRa := Lib.hid (YR9.out.below ba)
    clear cIs ba K9 B9 R9 X9 XR9 Y9 YR9 x0 x1 xf xl
    obtain ⟨x0, x1, xf, xl⟩ := Ba.out
    obtain ⟨v0, v1, vf, vl⟩ := Xa.out
    obtain ⟨BB, hib⟩ : ∃ B, Lg.isB (1 + (q : Int)) (fms F) = B := ⟨_, rfl⟩
    rw [hib]
    cases BB with
    | false =>
      go_wp2_with fail
      go_ret
      exact ⟨rfl, Ka.out⟩
    | true =>
      obtain ⟨hr0, hrt, hym⟩ := HST.out hib
      subst r11
      subst ty
      have YM : Hid (fms F6 = fms F) := Lib.hid hym
      clear hym
      obtain ⟨y0, y1, yf, yl⟩ := Ya.out
      have cSy := Lib.hid (brsame_calls t t F6 F (.slice A6 n6 c6) (.slice A F.length cap) wa YRa.out Ra.out (few_of_chk (t := t) (by rw [YM.out]; exact hc)))
      rw [YM.out, sameB_refl] at cSy
      go_wp2_with fail
      refine cSy.out.mono ?_; rintro e wb ⟨rfl, bb⟩
      have Kb := Lib.hid (trans9 Ka.out bb)
      have Bb := Lib.hid (Ba.out.below bb)
      have Rb := Lib.hid (Ra.out.below bb)
      have Xb := Lib.hid (Xa.out.below bb)
      have XRb := Lib.hid (XRa.out.below bb)
      clear cSy bb Ka Ba Ra Xa XRa Ya YRa x0 x1 xf xl v0 v1 vf vl y0 y1 yf yl
      obtain ⟨x0, x1, xf, xl⟩ := Bb.out
      obtain ⟨v0, v1, vf, vl⟩ := Xb.out
      have cFr := Lib.hid (hFrom.out (1 + (q : Int)) 0 [] F4 _ wb Kb.out XRb.out HF4.out (by unfold maxLen; simp))
      go_wp2_with fail
      refine cFr.out.mono ?_; rintro e wc ⟨⟨Ac, nc, cc, Fc, rfl, hFc, hfc⟩, bc⟩
      have Kc := Lib.hid (trans9 Kb.out bc)
      clear cFr bc hFc hfc x0 x1 xf xl v0 v1 vf vl
      go_wp2_with fail
      go_ret
      exact ⟨rfl, by repeat (first | exact Kc.out | apply kp_alloc)⟩
  rw [h0] at hto
  refine hto.out.mono ?_; rintro e w4 ⟨⟨A4, n4, c4, F4, rfl, hF4, hf4⟩, b4⟩
  simp only [tO, Lg.c0] at hf4 ⊢
  replace hf4 : fms F4 = M := hf4
  have XM := Lib.hid hf4
  have HF4 : Hid (FmFew F4) := Lib.hid (few_of_chk (t := t) (by rw [hf4]; exact hck))
  have K4 := Lib.hid (trans9 K3.out b4)
  have B4 := Lib.hid (B3.out.below b4)
  have R4 := Lib.hid (R3.out.below b4)
  clear hto b4 x0 x1 xf xl K3 B3 R3
  obtain ⟨e1, e2, b5⟩ := blk2_new w4 (.cells #[.string (str t), .slice A4 n4 c4] 24) (.cells #[.string (str []), .string (str [])] 30)
  have K5 := Lib.hid (trans9 K4.out b5)
  have B5 := Lib.hid (B4.out.below b5)
  have R5 := Lib.hid (R4.out.below b5)
  have X5 := Lib.hid (bat_heap e1)
  have XR5 := Lib.hid (hF4.below b5)
  clear K4 B4 R4 b5 e1 e2 hF4 hf4
  obtain ⟨x0, x1, xf, xl⟩ := B5.out
  have hlo := Lib.hid (hTo.out (1 + (q : Int)) 1 t F _ _ K5.out R5.out HF.out HTL.out)
  go_wp2_with fail
  refine hlo.out.mono ?_; rintro e w6 ⟨⟨A6, n6, c6, F6, rfl, hF6, hf6⟩, b6⟩
  have K6 := Lib.hid (trans9 K5.out b6)
  have B6 := Lib.hid (B5.out.below b6)
  have R6 := Lib.hid (R5.out.below b6)
  have X6 := Lib.hid (X5.out.below b6)
  have XR6 := Lib.hid (XR5.out.below b6)
  have hfl := Lg.from_loss HP.out hc
  obtain ⟨r11, h11⟩ : ∃ z, z = (Lg.toR (1 + (q : Int)) 1 t (fms F)).1 := ⟨_, rfl⟩
  obtain ⟨r12, h12⟩ : ∃ z, z = (Lg.toR (1 + (q : Int)) 1 t (fms F)).2.1.1 := ⟨_, rfl⟩
  obtain ⟨r13, h13⟩ : ∃ z, z = (Lg.toR (1 + (q : Int)) 1 t (fms F)).2.1.2 := ⟨_, rfl⟩
  obtain ⟨ty, h14y⟩ : ∃ z, z = tO (Lg.toR (1 + (q : Int)) 1 t (fms F)).2.2 t := ⟨_, rfl⟩
  have HST := Lib.hid (show Lg.isB (1 + (q : Int)) (fms F) = true → r11 = 0 ∧ ty = t ∧ fms F6 = fms F from fun h => by
    have hst := Lg.to_stay HP.out hc h
    rw [hst] at h11 h14y hf6
    exact ⟨h11, h14y, hf6⟩)
  rw [← h11, ← h12, ← h13, ← h14y]
  clear hlo b6 K5 B5 R5 X5 XR5 x0 x1 xf xl h11 h12 h13 h14y hf6
  obtain ⟨e1, e2, b7⟩ := blk2_new w6 (.cells #[.string (str ty), .slice A6 n6 c6] 24) (.cells #[.string (str r12), .string (str r13)] 30)
  have K7 := Lib.hid (trans9 K6.out b7)
  have B7 := Lib.hid (B6.out.below b7)
  have R7 := Lib.hid (R6.out.below b7)
  have X7 := Lib.hid (X6.out.below b7)
  have XR7 := Lib.hid (XR6.out.below b7)
  have Y7 := Lib.hid (bat_heap e1)
  have YR7 := Lib.hid (hF6.below b7)
  clear K6 B6 R6 X6 XR6 b7 e1 e2 hF6
  obtain ⟨x0, x1, xf, xl⟩ := B7.out
  have hlo := Lib.hid (hFrom.out (1 + (q : Int)) 1 t F _ _ K7.out R7.out HF.out HTL.out)
  rw [hfl] at hlo
  go_wp2_with fail
  refine hlo.out.mono ?_; rintro e w8 ⟨⟨A8, n8, c8, F8, rfl, hF8, hf8⟩, b8⟩
  simp only [tO] at hf8 ⊢
  replace hf8 : fms F8 = fms F := hf8
  have ka := kp_alloc (Below.refl w8.heap.size w8) (.cells #[.string (str t), .slice A8 n8 c8] 24)
  have b8' := trans9 b8 ka
  have K8 := Lib.hid (trans9 K7.out b8')
  have B8 := Lib.hid (B7.out.below b8')
  have R8 := Lib.hid (R7.out.below b8')
  have X8 := Lib.hid (X7.out.below b8')
  have XR8 := Lib.hid (XR7.out.below b8')
  have Y8 := Lib.hid (Y7.out.below b8')
  have YR8 := Lib.hid (YR7.out.below b8')
  have Z8 := Lib.hid (BatAt.new w8 t (.slice A8 n8 c8) 24)
  have cSz := Lib.hid (brsame_calls t t F8 F (.slice A8 n8 c8) (.slice A F.length cap) _ (hF8.below ka) R8.out (few_of_chk (t := t) (by rw [hf8]; exact hc)))
  rw [hf8, sameB_refl] at cSz
  clear hlo b8 b8' ka K7 B7 R7 X7 XR7 Y7 YR7 x0 x1 xf xl hF8 hf8 hfl
  obtain ⟨x0, x1, xf, xl⟩ := B8.out
  go_wp2_with fail
  refine cSz.out.mono ?_; rintro e w9 ⟨rfl, b9⟩
  have K9 := Lib.hid (trans9 K8.out b9)
  have B9 := Lib.hid (B8.out.below b9)
  have R9 := Lib.hid (R8.out.below b9)
  have X9 := Lib.hid (X8.out.below b9)
  have XR9 := Lib.hid (XR8.out.below b9)
  have Y9 := Lib.hid (Y8.out.below b9)
  have YR9 := Lib.hid (YR8.out.below b9)
  clear cSz b9 K8 B8 R8 X8 XR8 Y8 YR8 Z8 x0 x1 xf xl
  obtain ⟨x0, x1, xf, xl⟩ := B9.out
  have cIs := Lib.hid (hIs.out (1 + (q : Int)) t F _ w9 K9.out R9.out)
  go_wp2_with fail
  refine cIs.out.mono ?_; rintro e wa ⟨rfl, ba⟩
  have Ka := Lib.hid (trans9 K9.out ba)
  have Ba := Lib.hid (B9.out.below ba)
  have Ra := Lib.hid (R9.out.below ba)
  have Xa := Lib.hid (X9.out.below ba)
  have XRa := Lib.hid (XR9.out.below ba)
  have Ya := Lib.hid (Y9.out.below ba)
  have YRa := Lib.hid (YR9.out.below ba)
  clear cIs ba K9 B9 R9 X9 XR9 Y9 YR9 x0 x1 xf xl
  obtain ⟨x0, x1, xf, xl⟩ := Ba.out
  obtain ⟨v0, v1, vf, vl⟩ := Xa.out
  obtain ⟨BB, hib⟩ : ∃ B, Lg.isB (1 + (q : Int)) (fms F) = B := ⟨_, rfl⟩
  rw [hib]
  cases BB with
  | false =>
    have hmv := Lg.to_move HP.out hc hib h0 (u := t) (v := t)
    have cSx := Lib.hid (brsame_calls t t F4 F (.slice A4 n4 c4) (.slice A F.length cap) wa XRa.out Ra.out HF4.out)
    rw [XM.out, hmv] at cSx
    go_wp2_with fail
    refine cSx.out.mono ?_; rintro e wb ⟨rfl, bb⟩
    have Kb := Lib.hid (trans9 Ka.out bb)
    go_wp2_with fail
    go_ret
    exact ⟨rfl, Kb.out⟩
  | true =>
    obtain ⟨hr0, hrt, hym⟩ := HST.out hib
    subst r11
    subst ty
    have YM : Hid (fms F6 = fms F) := Lib.hid hym
    clear hym
    obtain ⟨y0, y1, yf, yl⟩ := Ya.out
    have cSy := Lib.hid (brsame_calls t t F6 F (.slice A6 n6 c6) (.slice A F.length cap) wa YRa.out Ra.out (few_of_chk (t := t) (by rw [YM.out]; exact hc)))
    rw [YM.out, sameB_refl] at cSy
    go_wp2_with fail
    refine cSy.out.mono ?_; rintro e wb ⟨rfl, bb⟩
    have Kb := Lib.hid (trans9 Ka.out bb)
    have Bb := Lib.hid (Ba.out.below bb)
    have Rb := Lib.hid (Ra.out.below bb)
    have Xb := Lib.hid (Xa.out.below bb)
    have XRb := Lib.hid (XRa.out.below bb)
    clear cSy bb Ka Ba Ra Xa XRa Ya YRa x0 x1 xf xl v0 v1 vf vl y0 y1 yf yl
    obtain ⟨x0, x1, xf, xl⟩ := Bb.out
    obtain ⟨v0, v1, vf, vl⟩ := Xb.out
    have cFr := Lib.hid (hFrom.out (1 + (q : Int)) 0 t F4 _ wb Kb.out XRb.out HF4.out (HTL.out))
    rw [XM.out, hfr] at cFr
    go_wp2_with fail
    refine cFr.out.mono ?_; rintro e wc ⟨⟨Ac, nc, cc, Fc, rfl, hFc, hfc⟩, bc⟩
    simp only [tO] at hfc ⊢
    replace hfc : fms Fc = fms F := hfc
    have ka := kp_alloc (Below.refl wc.heap.size wc) (.cells #[.string (str t), .slice Ac nc cc] 24)
    have bc' := trans9 bc ka
    have Kc := Lib.hid (trans9 Kb.out bc')
    have Bc := Lib.hid (Bb.out.below bc')
    have Rc := Lib.hid (Rb.out.below bc')
    have cSw := Lib.hid (brsame_calls t t Fc F (.slice Ac nc cc) (.slice A F.length cap) _ (hFc.below ka) Rc.out (few_of_chk (t := t) (by rw [hfc]; exact hc)))
    rw [hfc, sameB_refl] at cSw
    clear cFr bc bc' ka hFc hfc x0 x1 xf xl v0 v1 vf vl
    obtain ⟨x0, x1, xf, xl⟩ := Bc.out
    go_wp2_with fail
    refine cSw.out.mono ?_; rintro e wd ⟨rfl, bd⟩
    have Kd := Lib.hid (trans9 Kc.out bd)
    clear bd cSw x0 x1 xf xl
    go_wp2_with fail
    go_ret
    exact ⟨rfl, Kd.out⟩

end Go.Proofs.YtbapneipjmpcbaaGreatDoor
