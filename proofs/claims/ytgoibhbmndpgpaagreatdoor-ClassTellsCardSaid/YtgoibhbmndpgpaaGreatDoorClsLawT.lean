/- The walk of the law ClassTells (layer 16). -/
import Derived.Test.YtgoibhbmndpgpaaGreatDoorClsC
import Derived.Test.YtgoibhbmndpgpaaGreatDoorRefClsD
import Derived.Test.YtgoibhbmndpgpaaGreatDoorBatW
import Derived.Deep.RegionHeld3
import Derived.Deep.DrawnRows
import Derived.Deep.DeepCutAuto
import Derived.BigQuiet
set_option maxRecDepth 100000
set_option linter.unusedVariables false
set_option linter.unusedSimpArgs false
namespace Go.Proofs.YtgoibhbmndpgpaaGreatDoor
open Go.RowKit Go.Sort Dc
attribute [local go_sem ↓] Go.wp_at_zero Go.wp_at_succ

set_option maxHeartbeats 16000000 in
theorem clstells_walk (t : List UInt8) (F : List Fs) (v : Value) (p : Int) (vl : List UInt8) (w : World) (hv : FmRow w v F) (ht : t.length ≤ maxLen) (hvl : vl.length ≤ maxLen) (hC : ClsC w) (hK : ∀ X, Below w.heap.size w X → Calls Tryz.prog 5 #[] X fun e w' => e = .returned (.bool true) ∧ Below X.heap.size X w') :
    Calls Tryz.prog 3 #[batv t v, .int .i64 p, .string (str vl)] w fun e w' => e = .returned (.bool true) ∧ Below w.heap.size w w' := by
  have k0 := kp_alloc (Below.refl w.heap.size w) (.cells #[.string (str t), v] 24)
  have K0 := Lib.hid k0
  have B0 := Lib.hid (BatAt.new w t v 24)
  have R0 := Lib.hid (hv.below k0)
  have HC := Lib.hid hC
  have hT0 := Lib.hid (hK _ k0)
  have HTL := Lib.hid ht
  have HVL := Lib.hid hvl
  have hsv := str_size vl
  obtain ⟨A, n, cap, hv1⟩ : ∃ A n cap, v = .slice A n cap := by obtain ⟨A, cap, he, _⟩ := hv.1; exact ⟨A, _, cap, he⟩
  subst hv1
  unfold maxLen at hvl
  clear k0 hv hC hK
  go_enter Tryz.func3, Tryz.ntmps3
  go_wp2_with fail
  refine hT0.out.mono ?_; rintro e w1 ⟨rfl, b1⟩
  have K1 := Lib.hid (trans9 K0.out b1)
  have B1 := Lib.hid (B0.out.below b1)
  have R1 := Lib.hid (R0.out.below b1)
  clear b1 hT0 K0 B0 R0
  obtain ⟨x0, x1, xf, xl⟩ := B1.out
  go_wp2_with fail
  refine (wide_calls t F _ _ R1.out).mono ?_; rintro e w2 ⟨hW, b2⟩
  have K2 := Lib.hid (trans9 K1.out b2)
  have B2 := Lib.hid (B1.out.below b2)
  have R2 := Lib.hid (R1.out.below b2)
  clear b2 K1 B1 R1 x0 x1 xf xl
  rcases hW.ways with rfl | ⟨rfl, hfew⟩
  · go_wp2
    go_ret
    exact ⟨rfl, K2.out⟩
  have HF := Lib.hid hfew
  clear hfew hW
  by_cases hl : 200 < vl.length
  · have d1 : decide ((200 : Int) < (vl.length : Int)) = true := decide_eq_true (by omega)
    have d1' : decide (200 < vl.length) = true := decide_eq_true hl
    go_wp2
    go_ret
    exact ⟨rfl, K2.out⟩
  have d1 : decide ((200 : Int) < (vl.length : Int)) = false := decide_eq_false (by omega)
  have d1' : decide (200 < vl.length) = false := decide_eq_false hl
  go_wp2_with fail
  clear d1 d1' hl
  go_loopw [7] (fun x wr => ∃ k : Nat, k ≤ 7 ∧ x = .int .i64 (k : Nat) ∧ Hid (Below w2.heap.size w2 wr)) (fun x _ => (7 - intOf x).toNat)
  case atStart => exact ⟨0, by omega, rfl, Lib.hid (Below.refl _ _)⟩
  case round =>
    obtain ⟨k, hk, rfl, H⟩ := hrel
    by_cases hk7 : k < 7
    · obtain ⟨Q, HQ⟩ : ∃ Q : Int, Hid (Q = if k = 6 then p else (k : Int)) := ⟨_, rfl⟩
      go_upto_if 31 with (fail)
      go_cut [8] (fun s8 wx => s8 = .int .i64 Q ∧ wx = wr)
      case first =>
        by_cases h6 : k = 6
        · have hq := Lib.hid (show Q = p by rw [HQ.out, if_pos h6])
          have d6 : decide ((k : Int) = 6) = true := decide_eq_true (by omega)
          clear HQ
          go_wp2_with fail
          go_meet
          exact ⟨by rw [hq.out], rfl⟩
        · have hq := Lib.hid (show Q = (k : Int) by rw [HQ.out, if_neg h6])
          have d6 : decide ((k : Int) = 6) = false := decide_eq_false (by omega)
          have n6 : ¬ (k : Int) = 6 := by omega
          clear HQ
          go_wp2_with fail
          go_meet
          exact ⟨by rw [hq.out], rfl⟩
      case rest =>
        obtain ⟨rfl, rfl⟩ := hcut
        clear HQ
        have K3 := Lib.hid (trans9 K2.out H.out)
        have B3 := Lib.hid (B2.out.below H.out)
        have R3 := Lib.hid (R2.out.below H.out)
        have cW := Lib.hid (HC.out.why Q t F _ _ K3.out R3.out HF.out HTL.out)
        obtain ⟨R, hR⟩ : ∃ R, R = Kl.why Q t (fms F) := ⟨_, rfl⟩
        have HRR := Lib.hid hR
        rw [← hR] at cW
        clear hR
        obtain ⟨x0, x1, xf, xl⟩ := B3.out
        go_wp2_with fail
        refine cW.out.mono ?_; rintro e w4 ⟨rfl, b4⟩
        have H4 := Lib.hid (trans9 H.out b4)
        have K4 := Lib.hid (trans9 K3.out b4)
        have B4 := Lib.hid (B3.out.below b4)
        have R4 := Lib.hid (R3.out.below b4)
        clear cW b4 K3 B3 R3 x0 x1 xf xl H
        have cR := Lib.hid (rwhy_calls Q t F _ w4 R4.out HF.out HTL.out)
        rw [← HRR.out] at cR
        obtain ⟨x0, x1, xf, xl⟩ := B4.out
        go_wp2_with fail
        refine cR.out.mono ?_; rintro e w5 ⟨rfl, b5⟩
        have H5 := Lib.hid (trans9 H4.out b5)
        have K5 := Lib.hid (trans9 K4.out b5)
        have B5 := Lib.hid (B4.out.below b5)
        have R5 := Lib.hid (R4.out.below b5)
        clear cR b5 K4 B4 R4 H4 x0 x1 xf xl
        have cK := Lib.hid (HC.out.kinds Q w5 K5.out)
        go_wp2_with fail
        refine cK.out.mono ?_; rintro e w6 ⟨⟨v6, rfl, hr6⟩, b6⟩
        go_wp2_with fail
        refine (rkinds_calls Q w6).mono ?_; rintro e w7 ⟨⟨v7, rfl, hr7⟩, b7⟩
        have N6 := Lib.hid (hr6.below b7)
        have N7 := Lib.hid hr7
        have b67 := trans9 b6 b7
        have H7 := Lib.hid (trans9 H5.out b67)
        have K7 := Lib.hid (trans9 K5.out b67)
        have B7 := Lib.hid (B5.out.below b67)
        have R7 := Lib.hid (R5.out.below b67)
        clear cK b6 b7 b67 hr6 hr7 K5 B5 R5 H5
        obtain ⟨KQ, hKQ⟩ : ∃ l, l = Kl.kinds Q := ⟨_, rfl⟩
        rw [← hKQ] at N6 N7
        clear hKQ
        obtain ⟨A6, c6, rfl, h61, h62, h63⟩ := N6.out
        obtain ⟨A7, c7, rfl, h71, h72, h73⟩ := N7.out
        unfold maxLen at h62 h72
        clear h63 h73
        go_upto_region 14 with fail
        go_cut [81] from 49 to 81 (fun s81 wx => s81 = .bool false ∧ Hid (Below w7.heap.size w7 wx))
        case first =>
          obtain ⟨y0, y1, yf, yl⟩ := B7.out
          generalize w7 = W1 at *
          have r0 : ∀ y, Below W1.heap.size W1 y → y.cell? ⟨w.heap.size, 0, none⟩ = some (.string (str t)) := fun y h => (h.cell (p := ⟨w.heap.size, 0, none⟩) yl).trans y0
          have r1 : ∀ y, Below W1.heap.size W1 y → y.cell? ⟨w.heap.size, 1, none⟩ = some (.slice A n cap) := fun y h => (h.cell (p := ⟨w.heap.size, 1, none⟩) yl).trans y1
          have cIs := Lib.hid (fun y (h : Below W1.heap.size W1 y) => (show Calls Tryz.prog 11 #[.int .i64 Q, batv t (.slice A n cap)] y fun e w' => e = .returned (.bool R.2) ∧ Below y.heap.size y w' from by
            have := HC.out.is Q t F _ y (trans9 K7.out h) (R7.out.below h) HF.out HTL.out
            rwa [← HRR.out] at this))
          have cCl := Lib.hid (fun y (h : Below W1.heap.size W1 y) => (show Calls Tryz.prog 12 #[.int .i64 Q, batv t (.slice A n cap)] y fun e w' => e = .returned (.bool R.2) ∧ Below y.heap.size y w' from by
            have := rclass_calls Q t F _ y (R7.out.below h) HF.out HTL.out
            rwa [← HRR.out] at this))
          have cVa := Lib.hid (fun y (h : Below W1.heap.size W1 y) => HC.out.val Q vl y (trans9 K7.out h) HVL.out)
          have cRv := Lib.hid (fun y (h : Below W1.heap.size W1 y) => rval16_calls Q vl y HVL.out)
          generalize Kl.val Q vl = VV at *
          obtain ⟨RA, RB⟩ := R
          simp only at cIs cCl ⊢
          clear HRR HC K7 B7 R7 y0 y1 yf yl H7 K2 B2 R2 HF HTL HVL N6 N7
          go_region_held3 (fun y => Below W1.heap.size W1 y)
            (((repeat' first | assumption | exact Below.refl _ _ | exact Nat.le_refl _ | apply kp_alloc | apply kp_set | apply Below.drew | omega); done))
            ((first
              | (go_at_call 11; refine (cIs.out _ (by (repeat' first | assumption | exact Below.refl _ _ | apply kp_alloc | apply Below.drew))).mono ?_; rintro e w11 ⟨rfl, b11⟩; have k11 : Below W1.heap.size W1 w11 := (by refine trans9 ?_ b11; (repeat' first | assumption | exact Below.refl _ _ | exact Nat.le_refl _ | apply kp_alloc | apply kp_set | apply Below.drew | omega)))
              | (go_at_call 12; refine (cCl.out _ (by (repeat' first | assumption | exact Below.refl _ _ | apply kp_alloc | apply Below.drew))).mono ?_; rintro e w12 ⟨rfl, b12⟩; have k12 : Below W1.heap.size W1 w12 := (by refine trans9 ?_ b12; (repeat' first | assumption | exact Below.refl _ _ | exact Nat.le_refl _ | apply kp_alloc | apply kp_set | apply Below.drew | omega)))
              | (go_at_call 13; refine (cVa.out _ (by (repeat' first | assumption | exact Below.refl _ _ | apply kp_alloc | apply Below.drew))).mono ?_; rintro e w13 ⟨rfl, b13⟩; have k13 : Below W1.heap.size W1 w13 := (by refine trans9 ?_ b13; (repeat' first | assumption | exact Below.refl _ _ | exact Nat.le_refl _ | apply kp_alloc | apply kp_set | apply Below.drew | omega)))
              | (go_at_call 14; refine (cRv.out _ (by (repeat' first | assumption | exact Below.refl _ _ | apply kp_alloc | apply Below.drew))).mono ?_; rintro e w14 ⟨rfl, rfl⟩)))
          all_goals
            go_wp2_with fail
            go_meet
            exact ⟨by first | rfl | simp, Lib.hid (by (repeat' first | assumption | exact Below.refl _ _ | apply Below.drew))⟩
        case rest =>
          obtain ⟨rfl, HX⟩ := hcut
          have HX7 := Lib.hid (trans9 H7.out HX.out)
          have N6x := Lib.hid (N6.out.below HX.out)
          have N7x := Lib.hid (N7.out.below HX.out)
          clear H7 K7 B7 R7 N6 N7 HRR HX
          obtain ⟨A6', c6', he6, _, _, h63⟩ := N6x.out
          obtain ⟨rfl, _, rfl⟩ := Value.slice.inj he6
          obtain ⟨A7', c7', he7, _, _, h73⟩ := N7x.out
          obtain ⟨rfl, _, rfl⟩ := Value.slice.inj he7
          have M6 := Lib.hid h63
          have M7 := Lib.hid h73
          clear he6 he7 h63 h73 N6x N7x
          go_wp2_with fail
          go_loopw [15] (fun x wz => ∃ j : Nat, j ≤ KQ.length ∧ x = .int .i64 (j : Nat) ∧ Hid (Below wc.heap.size wc wz)) (fun x _ => KQ.length - (intOf x).toNat)
          case atStart => exact ⟨0, by omega, rfl, Lib.hid (Below.refl _ _)⟩
          case round =>
            obtain ⟨j, hj, rfl, HZ⟩ := hrel
            by_cases hjl : j < KQ.length
            · obtain ⟨b6, o6, rfl, hb6, hc6⟩ := M6.out (by omega)
              obtain ⟨b7, o7, rfl, hb7, hc7⟩ := M7.out (by omega)
              have g6 := (HZ.out.cell (p := ⟨b6, o6 + j, none⟩) hb6).trans (hc6 j _ (List.getElem?_eq_getElem hjl))
              have g7 := (HZ.out.cell (p := ⟨b7, o7 + j, none⟩) hb7).trans (hc7 j _ (List.getElem?_eq_getElem hjl))
              have hj0 : (0 : Int) ≤ (j : Int) := by omega
              have hjb : (j : Int) < (KQ.length : Int) := by omega
              generalize KQ[j] = kj at *
              clear hc6 hc7
              go_wp2_with fail
              go_quiet (fail)
              go_wp2_with fail
              go_roundw
              case rel => exact ⟨j + 1, hjl, by go_num, Lib.hid (below_drewN HZ.out _)⟩
              case measure => simp [intOf]; omega
            · have HO := Lib.hid (trans9 HX7.out HZ.out)
              go_wp2_with fail
              go_roundw
              case rel => exact ⟨k + 1, by omega, by go_num, HO⟩
              case measure => simp [intOf]; omega
    · have HO := Lib.hid (trans9 K2.out H.out)
      go_wp2_with fail
      go_ret
      exact ⟨rfl, HO.out⟩

theorem clstells_str (t : List UInt8) (F : List Fs) (v : Value) (p : Int) (s : ByteArray) (w : World) (hv : FmRow w v F) (ht : t.length ≤ maxLen) (hs : s.size ≤ maxLen) (hC : ClsC w) (hK : ∀ X, Below w.heap.size w X → Calls Tryz.prog 5 #[] X fun e w' => e = .returned (.bool true) ∧ Below X.heap.size X w') :
    Calls Tryz.prog 3 #[batv t v, .int .i64 p, .string s] w fun e w' => e = .returned (.bool true) ∧ Below w.heap.size w w' := by
  rw [str_self s]
  exact clstells_walk t F v p _ w hv ht (by rw [← str_size, ← str_self]; exact hs) hC hK

end Go.Proofs.YtgoibhbmndpgpaaGreatDoor
