/- The walk of the law BatchOf. -/
import Derived.Test.YtkmcjmpdmgdcoaaGreatDoorBatK
import Derived.Test.YtkmcjmpdmgdcoaaGreatDoorBatW
import Derived.Test.YtkmcjmpdmgdcoaaGreatDoorRefBatB
set_option maxRecDepth 100000
set_option linter.unusedVariables false
set_option linter.unusedSimpArgs false
namespace Go.Proofs.YtkmcjmpdmgdcoaaGreatDoor
open Go.RowKit Dc
attribute [local go_sem ↓] Go.wp_at_zero Go.wp_at_succ

theorem chk_strict {t : List UInt8} {l : List Fp} (h : chk t l = 0) : ∀ x ∈ l, StrictP x.2 := fun x hx => famOk_strict ((batOk_iff.1 (chk_zero h).1).2.1 x hx)
theorem rows_strict {F : List Fs} (h : ∀ x ∈ fms F, StrictP x.2) : ∀ x ∈ F, StrictP (pts x.L) := fun x hx => h (fm x) (List.mem_map_of_mem hx)
theorem gsrt_self {t : List UInt8} {l : List Fp} (h : chk t l = 0) : gsrt cmpF l = some l := gsrt_is tp_cmpF (List.Perm.refl _) (batOk_iff.1 (chk_zero h).1).2.2
theorem ofO_self {t s : List UInt8} {l : List Fp} (h : chk t l = 0) (hs : tenOk s = true) : ofO s l = some l := ofO_yes (gsrt_self h) ((chk_ten h).2 hs)
theorem ofO_ten {t s : List UInt8} {l : List Fp} (h : chk t l = 0) (hs : tenOk s = false) : ofO s l = none := ofO_bad (gsrt_self h) (by rw [chk_not hs]; decide)
theorem FmFew.same {F G : List Fs} (h : FmFew F) (e : fms G = fms F) : FmFew G := FpFew.rows (by rw [e]; exact h.plain)

theorem of_none (t s : List UInt8) (F : List Fs) (v : Value) (w : World) (hv : FmRow w v F) (hf : FmFew F) (hs : s.length ≤ maxLen) (hT : ShPl w) (hc : chk t (fms F) = 0) (hn : tenOk s = false) :
    Calls Tryz.prog 9 #[.string (str s), v] w fun e w' => (∃ A cap, e = .returned (.tuple #[.agg #[.string ⟨#[]⟩, .slice A 0 cap], .bool false])) ∧ Below w.heap.size w w' := by
  refine (of_calls s F v w hv hf (rows_strict (chk_strict hc)) hs hT).mono ?_
  rintro e w' ⟨⟨A, n, cap, M, rfl, hk, hM⟩, hb⟩
  rw [ofO_ten hc hn] at hM ⊢
  have hM0 : M = [] := by simpa [fms] using hM
  obtain ⟨_, _, hsl, _⟩ := hk.row.1
  rw [hM0] at hsl
  obtain rfl : n = 0 := by simpa using (Value.slice.inj hsl).2.1
  exact ⟨⟨A, cap, rfl⟩, hb⟩
theorem of_some (t s : List UInt8) (F : List Fs) (v : Value) (w : World) (hv : FmRow w v F) (hf : FmFew F) (hs : s.length ≤ maxLen) (hT : ShPl w) (hc : chk t (fms F) = 0) (hn : tenOk s = true) :
    Calls Tryz.prog 9 #[.string (str s), v] w fun e w' => (∃ A n cap M, e = .returned (.tuple #[batv s (.slice A n cap), .bool true]) ∧ FmKeep w' w.heap.size (.slice A n cap) M ∧ fms M = fms F) ∧ Below w.heap.size w w' := by
  refine (of_calls s F v w hv hf (rows_strict (chk_strict hc)) hs hT).mono ?_
  rintro e w' ⟨⟨A, n, cap, M, rfl, hk, hM⟩, hb⟩
  rw [ofO_self hc hn] at hM ⊢
  exact ⟨⟨A, n, cap, M, rfl, hk, hM⟩, hb⟩

set_option maxHeartbeats 16000000 in
theorem law_of (t s : List UInt8) (F : List Fs) (v : Value) (w : World) (hv : FmRow w v F) (ht : t.length ≤ maxLen) (hs : s.length ≤ maxLen) (hT : ShPl w) :
    Calls Tryz.prog 5 #[batv t v, .string (str s)] w fun e w' => e = .returned (.bool true) ∧ Below w.heap.size w w' := by
  have k0 := kp_alloc (Below.refl w.heap.size w) (.cells #[.string (str t), v] 24)
  have K0 := Lib.hid k0
  have B0 := Lib.hid (BatAt.new w t v 24)
  have T0 := Lib.hid (shpl_below hT k0)
  have R0 := Lib.hid (hv.below k0)
  have hT0 := Lib.hid (bknown_calls _ (shpl_below hT k0))
  have HTL := Lib.hid ht
  have HSL := Lib.hid hs
  have hzs := str_size s
  obtain ⟨A, n, cap, hv1⟩ : ∃ A n cap, v = .slice A n cap := by obtain ⟨A, cap, he, _⟩ := hv.1; exact ⟨A, _, cap, he⟩
  subst hv1
  unfold maxLen at hs
  clear k0 hv hT ht
  go_enter Tryz.func5, Tryz.ntmps5
  go_wp2_with fail
  refine hT0.out.mono ?_; rintro e w1 ⟨rfl, b1⟩
  have K1 := Lib.hid (trans9 K0.out b1)
  have B1 := Lib.hid (B0.out.below b1)
  have T1 := Lib.hid (shpl_below T0.out b1)
  have R1 := Lib.hid (R0.out.below b1)
  clear b1 hT0 K0 B0 T0 R0
  obtain ⟨x0, x1, xf, xl⟩ := B1.out
  go_wp2_with fail
  refine (wide_calls t F _ _ R1.out).mono ?_; rintro e w2 ⟨hW, b2⟩
  have K2 := Lib.hid (trans9 K1.out b2)
  have B2 := Lib.hid (B1.out.below b2)
  have T2 := Lib.hid (shpl_below T1.out b2)
  have R2 := Lib.hid (R1.out.below b2)
  clear b2 K1 B1 T1 R1 x0 x1 xf xl
  obtain ⟨x0, x1, xf, xl⟩ := B2.out
  rcases hW.ways with rfl | ⟨rfl, hfew⟩
  · go_wp2
    go_ret
    exact ⟨rfl, K2.out⟩
  have HF := Lib.hid hfew
  clear hfew
  by_cases h60 : (60 : Int) < (s.length : Int)
  · have d60 : decide ((60 : Int) < (s.length : Int)) = true := decide_eq_true h60
    have d60' : decide (60 < s.length) = true := by simp; omega
    go_wp2
    go_ret
    exact ⟨rfl, K2.out⟩
  have d60 : decide ((60 : Int) < (s.length : Int)) = false := decide_eq_false h60
  have d60' : decide (60 < s.length) = false := by simp; omega
  clear h60
  go_wp2_with fail
  refine (rcheck_calls t F _ _ R2.out HF.out HTL.out).mono ?_; rintro e w3 ⟨rfl, b3⟩
  have K3 := Lib.hid (trans9 K2.out b3)
  have B3 := Lib.hid (B2.out.below b3)
  have T3 := Lib.hid (shpl_below T2.out b3)
  have R3 := Lib.hid (R2.out.below b3)
  clear b3 K2 B2 T2 R2 x0 x1 xf xl
  obtain ⟨x0, x1, xf, xl⟩ := B3.out
  obtain ⟨C, hC⟩ : ∃ C, C = chk t (fms F) := ⟨_, rfl⟩
  rw [← hC]
  have HC := Lib.hid hC
  clear hC
  by_cases hC0 : ¬ C = 0
  · have d0 : (C == 0) = false := by simpa using hC0
    have d1 : (C != 0) = true := by simpa using hC0
    clear hC0
    go_wp2
    go_ret
    exact ⟨rfl, K3.out⟩
  replace hC0 := Classical.not_not.1 hC0
  subst hC0
  have hc0 : chk t (fms F) = 0 := HC.out.symm
  have HH := Lib.hid hc0
  clear hc0 HC
  have hten := Lib.hid (fun W => ten_calls s W HSL.out)
  cases hts : tenOk s with
  | false =>
    rw [hts] at hten
    have HO := Lib.hid (of_none t s F _ _ R3.out HF.out HSL.out T3.out HH.out hts)
    have hchk := Lib.hid (chk_not (l := fms F) hts)
    clear hts
    go_wp2_with fail
    refine HO.out.mono ?_; rintro e w4 ⟨⟨A4, cap4, rfl⟩, b4⟩
    have kD := kp_alloc (Below.refl w4.heap.size w4) (.cells #[.string ⟨#[]⟩, .slice A4 0 cap4] 24)
    have bD := b4.trans (kD.mono b4.size)
    have K4 := Lib.hid (trans9 K3.out bD)
    have B4 := Lib.hid (B3.out.below bD)
    have T4 := Lib.hid (shpl_below T3.out bD)
    have R4 := Lib.hid (R3.out.below bD)
    have X4 := Lib.hid (BatAt.new w4 [] (.slice A4 0 cap4) 24)
    clear b4 kD bD K3 B3 T3 R3 x0 x1 xf xl HO
    obtain ⟨x0, x1, xf, xl⟩ := B4.out
    obtain ⟨y0, y1, yf, yl⟩ := X4.out
    go_wp2_with fail
    refine (stamp_calls t s F _ _ R4.out HF.out).mono ?_; rintro e w5 ⟨⟨A5, n5, cap5, M5, rfl, keep5, hM5⟩, b5⟩
    have kD := kp_alloc (Below.refl w5.heap.size w5) (.cells #[.string (str s), .slice A5 n5 cap5] 24)
    have bD := b5.trans (kD.mono b5.size)
    have K5 := Lib.hid (trans9 K4.out bD)
    have T5 := Lib.hid (shpl_below T4.out bD)
    have X5 := Lib.hid (X4.out.below bD)
    have Z5 := Lib.hid (BatAt.new w5 s (.slice A5 n5 cap5) 24)
    have RZ5 := Lib.hid (keep5.row.below kD)
    have HM5 := Lib.hid hM5
    have HFz := Lib.hid (HF.out.same hM5)
    clear b5 kD bD K4 B4 T4 R4 X4 x0 x1 xf xl y0 y1 yf yl keep5 hM5
    obtain ⟨y0, y1, yf, yl⟩ := X5.out
    obtain ⟨z0, z1, zf, zl⟩ := Z5.out
    go_wp2_with fail
    refine (hten.out _).mono ?_; rintro e w99 ⟨rfl, rfl⟩
    go_wp2_with fail
    refine (bcheck_calls s M5 _ _ RZ5.out HFz.out HSL.out T5.out).mono ?_; rintro e w6 ⟨rfl, b6⟩
    have K6 := Lib.hid (trans9 K5.out b6)
    have X6 := X5.out.below b6
    rw [HM5.out, hchk.out]
    clear y0 y1 yf yl z0 z1 zf zl b6
    obtain ⟨y0, y1, yf, yl⟩ := X6
    go_wp2
    go_ret
    exact ⟨rfl, K6.out⟩
  | true =>
    rw [hts] at hten
    have HO := Lib.hid (of_some t s F _ _ R3.out HF.out HSL.out T3.out HH.out hts)
    have hchk := Lib.hid ((chk_ten HH.out).2 hts)
    clear hts
    go_wp2_with fail
    refine HO.out.mono ?_; rintro e w4 ⟨⟨A4, n4, cap4, M4, rfl, keep4, hM4⟩, b4⟩
    have kD := kp_alloc (Below.refl w4.heap.size w4) (.cells #[.string (str s), .slice A4 n4 cap4] 24)
    have bD := b4.trans (kD.mono b4.size)
    have K4 := Lib.hid (trans9 K3.out bD)
    have B4 := Lib.hid (B3.out.below bD)
    have T4 := Lib.hid (shpl_below T3.out bD)
    have R4 := Lib.hid (R3.out.below bD)
    have X4 := Lib.hid (BatAt.new w4 s (.slice A4 n4 cap4) 24)
    have RX4 := Lib.hid (keep4.row.below kD)
    have HM4 := Lib.hid hM4
    clear b4 kD bD K3 B3 T3 R3 x0 x1 xf xl keep4 hM4 HO
    obtain ⟨x0, x1, xf, xl⟩ := B4.out
    obtain ⟨y0, y1, yf, yl⟩ := X4.out
    go_wp2_with fail
    refine (stamp_calls t s F _ _ R4.out HF.out).mono ?_; rintro e w5 ⟨⟨A5, n5, cap5, M5, rfl, keep5, hM5⟩, b5⟩
    have kD := kp_alloc (Below.refl w5.heap.size w5) (.cells #[.string (str s), .slice A5 n5 cap5] 24)
    have bD := b5.trans (kD.mono b5.size)
    have K5 := Lib.hid (trans9 K4.out bD)
    have B5 := Lib.hid (B4.out.below bD)
    have T5 := Lib.hid (shpl_below T4.out bD)
    have R5 := Lib.hid (R4.out.below bD)
    have X5 := Lib.hid (X4.out.below bD)
    have RX5 := Lib.hid (RX4.out.below bD)
    have Z5 := Lib.hid (BatAt.new w5 s (.slice A5 n5 cap5) 24)
    have RZ5 := Lib.hid (keep5.row.below kD)
    have HM5 := Lib.hid hM5
    have HFz := Lib.hid (HF.out.same hM5)
    have HFx := Lib.hid (HF.out.same HM4.out)
    clear b5 kD bD K4 B4 T4 R4 X4 RX4 x0 x1 xf xl y0 y1 yf yl keep5 hM5
    obtain ⟨x0, x1, xf, xl⟩ := B5.out
    obtain ⟨y0, y1, yf, yl⟩ := X5.out
    obtain ⟨z0, z1, zf, zl⟩ := Z5.out
    go_wp2_with fail
    refine (hten.out _).mono ?_; rintro e w99 ⟨rfl, rfl⟩
    go_wp2_with fail
    refine (bcheck_calls s M5 _ _ RZ5.out HFz.out HSL.out T5.out).mono ?_; rintro e w6 ⟨rfl, b6⟩
    have K6 := Lib.hid (trans9 K5.out b6)
    have B6 := Lib.hid (B5.out.below b6)
    have R6 := Lib.hid (R5.out.below b6)
    have X6 := Lib.hid (X5.out.below b6)
    have RX6 := Lib.hid (RX5.out.below b6)
    have Z6 := Lib.hid (Z5.out.below b6)
    have RZ6 := Lib.hid (RZ5.out.below b6)
    rw [HM5.out, hchk.out]
    clear x0 x1 xf xl y0 y1 yf yl z0 z1 zf zl b6 T5 K5 B5 R5 X5 RX5 Z5 RZ5 hten hchk
    obtain ⟨x0, x1, xf, xl⟩ := B6.out
    obtain ⟨y0, y1, yf, yl⟩ := X6.out
    obtain ⟨z0, z1, zf, zl⟩ := Z6.out
    generalize w5.heap.size = bz at *
    generalize w4.heap.size = bx at *
    generalize w.heap.size = b0 at x0 x1 xf xl ⊢
    generalize w6 = W1 at *
    have hR : ∀ b o u, b < W1.heap.size → W1.cell? ⟨b, o, none⟩ = some u → ∀ z, Below W1.heap.size W1 z → z.cell? ⟨b, o, none⟩ = some u := fun b o u hb hu z hz => (hz.cell (p := ⟨b, o, none⟩) hb).trans hu
    have r0 := hR _ _ _ xl x0
    have r1 := hR _ _ _ xl x1
    have s0 := hR _ _ _ yl y0
    have s1 := hR _ _ _ yl y1
    have q0 := hR _ _ _ zl z0
    have q1 := hR _ _ _ zl z1
    have HS1 := Lib.hid (fun z (hz : Below W1.heap.size W1 z) => bsame_calls s s M4 M5 _ _ z (RX6.out.below hz) (RZ6.out.below hz) HFx.out)
    have HSt := Lib.hid (fun z (hz : Below W1.heap.size W1 z) => stamp_calls s t M4 _ z (RX6.out.below hz) HFx.out)
    have HS2 := Lib.hid (fun z (hz : Below W1.heap.size W1 z) y M (hy : FmRow z y M) (hM : fms M = fms M4) => bsame_calls t t M F y _ z hy (R6.out.below hz) (HFx.out.same hM))
    have HS3 := Lib.hid (fun z (hz : Below W1.heap.size W1 z) => bsame_calls s t M4 F _ _ z (RX6.out.below hz) (R6.out.below hz) HFx.out)
    rw [HM4.out, HM5.out, sameB_refl] at HS1
    rw [HM4.out] at HS2 HS3
    rw [sameB_ten] at HS3
    replace HS2 : Hid (∀ z (hz : Below W1.heap.size W1 z) y M (hy : FmRow z y M) (hM : fms M = fms F), Calls Tryz.prog 11 #[batv t y, batv t (.slice A n cap)] z fun e w' => e = .returned (.bool true) ∧ Below z.heap.size z w') := Lib.hid (fun z hz y M hy hM => (HS2.out z hz y M hy hM).mono fun e w' ⟨h1, h2⟩ => ⟨by rw [h1, hM, sameB_refl], h2⟩)
    rw [HM4.out] at HSt
    clear hR
    by_cases hst : s = t
    · subst hst
      have e0 := decide_eq_true (rfl : s = s)
      rw [e0] at HS3
      clear e0
      go_wp2_with fail
      refine wp_region_noPanic ?_
      refine wp_region_held_drew (S := fun z => Below W1.heap.size W1 z) (by kernel_rfl) ?_ (fun hHeld => ?_)
      · exact Below.drew (Below.refl _ _)
      refine wpAnyH_take (i := 0) (v := ?_) (by simp only [List.getElem?_toArray, List.getElem?_cons_succ, List.getElem?_cons_zero]; rfl) (by kernel_rfl) (by kernel_rfl) (by kernel_rfl) (fun _ _ _ h => h) (Or.inl ⟨by rfl, ?_⟩) (by assumption) ?_
      rotate_left
      · intro w hSw; (try dsimp only at hSw); first | (go_simp; done) | (go_simp; with_reducible rfl)
      simp only [Act.put, List.setIfInBounds_toArray, List.set_cons_zero, List.set_cons_succ]
      refine wpAnyH_take (i := 1) (v := ?_) (by simp only [List.getElem?_toArray, List.getElem?_cons_succ, List.getElem?_cons_zero]; rfl) (by kernel_rfl) (by kernel_rfl) (by kernel_rfl) (fun _ _ _ h => h) (Or.inl ⟨by rfl, ?_⟩) (by assumption) ?_
      rotate_left
      · intro w hSw; (try dsimp only at hSw); first | (go_simp; done) | (go_simp; with_reducible rfl)
      simp only [Act.put, List.setIfInBounds_toArray, List.set_cons_zero, List.set_cons_succ]
      refine wpAnyH_ready (rs := [2]) (by kernel_rfl) (by simp) ?_
      refine AllReadyH.cons (by simp only [List.getElem?_toArray, List.getElem?_cons_succ, List.getElem?_cons_zero]; rfl) (fun K hK => ?_) AllReadyH.nil
      try go_simp
      (go_at_call 11; refine (HS1.out _ (by first | assumption | exact Below.refl _ _ | (repeat' first | assumption | exact Below.refl _ _ | apply kp_alloc | apply Below.drew))).mono ?_; rintro e w2 ⟨rfl, b2⟩; have k2 : Below W1.heap.size W1 w2 := (by refine trans9 ?_ b2; (repeat' first | assumption | exact Below.refl _ _ | exact Nat.le_refl _ | apply kp_alloc | apply kp_set | apply Below.drew | omega)))
      refine hK.out _ _ ?_ (fun hHeld => ?_)
      · first | assumption | exact Below.drew (by assumption)
      clear hK K
      try simp only [Act.put, List.setIfInBounds_toArray, List.set_cons_zero, List.set_cons_succ]
      refine wpAnyH_take (i := 3) (v := ?_) (by simp only [List.getElem?_toArray, List.getElem?_cons_succ, List.getElem?_cons_zero]; rfl) (by kernel_rfl) (by kernel_rfl) (by kernel_rfl) (fun _ _ _ h => h) (Or.inl ⟨by rfl, ?_⟩) (by assumption) ?_
      rotate_left
      · intro w hSw; (try dsimp only at hSw); first | (go_simp; done) | (go_simp; with_reducible rfl)
      simp only [Act.put, List.setIfInBounds_toArray, List.set_cons_zero, List.set_cons_succ]
      refine wpAnyH_take (i := 4) (v := ?_) (by simp only [List.getElem?_toArray, List.getElem?_cons_succ, List.getElem?_cons_zero]; rfl) (by kernel_rfl) (by kernel_rfl) (by kernel_rfl) (fun _ _ _ h => h) (Or.inl ⟨by rfl, ?_⟩) (by assumption) ?_
      rotate_left
      · intro w hSw; (try dsimp only at hSw); first | (go_simp; done) | (go_simp; with_reducible rfl)
      simp only [Act.put, List.setIfInBounds_toArray, List.set_cons_zero, List.set_cons_succ]
      refine wpAnyH_take (i := 5) (v := ?_) (by simp only [List.getElem?_toArray, List.getElem?_cons_succ, List.getElem?_cons_zero]; rfl) (by kernel_rfl) (by kernel_rfl) (by kernel_rfl) (fun _ _ _ h => h) (Or.inl ⟨by rfl, ?_⟩) (by assumption) ?_
      rotate_left
      · intro w hSw; (try dsimp only at hSw); first | (go_simp; done) | (go_simp; with_reducible rfl)
      simp only [Act.put, List.setIfInBounds_toArray, List.set_cons_zero, List.set_cons_succ]
      refine wpAnyH_take (i := 6) (v := ?_) (by simp only [List.getElem?_toArray, List.getElem?_cons_succ, List.getElem?_cons_zero]; rfl) (by kernel_rfl) (by kernel_rfl) (by kernel_rfl) (fun _ _ _ h => h) (Or.inl ⟨by rfl, ?_⟩) (by assumption) ?_
      rotate_left
      · intro w hSw; (try dsimp only at hSw); first | (go_simp; done) | (go_simp; with_reducible rfl)
      simp only [Act.put, List.setIfInBounds_toArray, List.set_cons_zero, List.set_cons_succ]
      refine wpAnyH_take (i := 8) (v := ?_) (by simp only [List.getElem?_toArray, List.getElem?_cons_succ, List.getElem?_cons_zero]; rfl) (by kernel_rfl) (by kernel_rfl) (by kernel_rfl) (fun _ _ _ h => h) (Or.inl ⟨by rfl, ?_⟩) (by assumption) ?_
      rotate_left
      · intro w hSw; (try dsimp only at hSw); first | (go_simp; done) | (go_simp; with_reducible rfl)
      simp only [Act.put, List.setIfInBounds_toArray, List.set_cons_zero, List.set_cons_succ]
      refine wpAnyH_ready (rs := [7]) (by kernel_rfl) (by simp) ?_
      refine AllReadyH.cons (by simp only [List.getElem?_toArray, List.getElem?_cons_succ, List.getElem?_cons_zero]; rfl) (fun K hK => ?_) AllReadyH.nil
      try go_simp
      (go_at_call 14; refine (HSt.out _ (by first | assumption | exact Below.refl _ _ | (repeat' first | assumption | exact Below.refl _ _ | apply kp_alloc | apply Below.drew))).mono ?_; rintro e w3 ⟨⟨A3, n3, cap3, M3, rfl, row3, hM3⟩, b3⟩; have k3 : Below W1.heap.size W1 w3 := (by refine trans9 ?_ b3; (repeat' first | assumption | exact Below.refl _ _ | exact Nat.le_refl _ | apply kp_alloc | apply kp_set | apply Below.drew | omega)))
      refine hK.out _ _ ?_ (fun hHeld => ?_)
      · first | assumption | exact Below.drew (by assumption)
      clear hK K
      try simp only [Act.put, List.setIfInBounds_toArray, List.set_cons_zero, List.set_cons_succ]
      refine wpAnyH_ready (rs := [9]) (by kernel_rfl) (by simp) ?_
      refine AllReadyH.cons (by simp only [List.getElem?_toArray, List.getElem?_cons_succ, List.getElem?_cons_zero]; rfl) (fun K hK => ?_) AllReadyH.nil
      try go_simp
      (go_at_call 11; refine (HS2.out _ (by first | assumption | exact Below.refl _ _ | (repeat' first | assumption | exact Below.refl _ _ | apply kp_alloc | apply Below.drew)) _ M3 (by first | exact row3.row | exact row3.row.below (Below.drew (Below.refl _ _))) hM3).mono ?_; rintro e w4 ⟨rfl, b4⟩; have k4 : Below W1.heap.size W1 w4 := (by refine trans9 ?_ b4; (repeat' first | assumption | exact Below.refl _ _ | exact Nat.le_refl _ | apply kp_alloc | apply kp_set | apply Below.drew | omega)))
      refine hK.out _ _ ?_ (fun hHeld => ?_)
      · first | assumption | exact Below.drew (by assumption)
      clear hK K
      try simp only [Act.put, List.setIfInBounds_toArray, List.set_cons_zero, List.set_cons_succ]
      refine wpAnyH_take (i := 10) (v := ?_) (by simp only [List.getElem?_toArray, List.getElem?_cons_succ, List.getElem?_cons_zero]; rfl) (by kernel_rfl) (by kernel_rfl) (by kernel_rfl) (fun _ _ _ h => h) (Or.inl ⟨by rfl, ?_⟩) (by assumption) ?_
      rotate_left
      · intro w hSw; (try dsimp only at hSw); first | (go_simp; done) | (go_simp; with_reducible rfl)
      simp only [Act.put, List.setIfInBounds_toArray, List.set_cons_zero, List.set_cons_succ]
      refine wpAnyH_take (i := 11) (v := ?_) (by simp only [List.getElem?_toArray, List.getElem?_cons_succ, List.getElem?_cons_zero]; rfl) (by kernel_rfl) (by kernel_rfl) (by kernel_rfl) (fun _ _ _ h => h) (Or.inl ⟨by rfl, ?_⟩) (by assumption) ?_
      rotate_left
      · intro w hSw; (try dsimp only at hSw); first | (go_simp; done) | (go_simp; with_reducible rfl)
      simp only [Act.put, List.setIfInBounds_toArray, List.set_cons_zero, List.set_cons_succ]
      refine wpAnyH_take (i := 12) (v := ?_) (by simp only [List.getElem?_toArray, List.getElem?_cons_succ, List.getElem?_cons_zero]; rfl) (by kernel_rfl) (by kernel_rfl) (by kernel_rfl) (fun _ _ _ h => h) (Or.inl ⟨by rfl, ?_⟩) (by assumption) ?_
      rotate_left
      · intro w hSw; (try dsimp only at hSw); first | (go_simp; done) | (go_simp; with_reducible rfl)
      simp only [Act.put, List.setIfInBounds_toArray, List.set_cons_zero, List.set_cons_succ]
      refine wpAnyH_take (i := 13) (v := ?_) (by simp only [List.getElem?_toArray, List.getElem?_cons_succ, List.getElem?_cons_zero]; rfl) (by kernel_rfl) (by kernel_rfl) (by kernel_rfl) (fun _ _ _ h => h) (Or.inl ⟨by rfl, ?_⟩) (by assumption) ?_
      rotate_left
      · intro w hSw; (try dsimp only at hSw); first | (go_simp; done) | (go_simp; with_reducible rfl)
      simp only [Act.put, List.setIfInBounds_toArray, List.set_cons_zero, List.set_cons_succ]
      refine wpAnyH_take (i := 15) (v := ?_) (by simp only [List.getElem?_toArray, List.getElem?_cons_succ, List.getElem?_cons_zero]; rfl) (by kernel_rfl) (by kernel_rfl) (by kernel_rfl) (fun _ _ _ h => h) (Or.inl ⟨by rfl, ?_⟩) (by assumption) ?_
      rotate_left
      · intro w hSw; (try dsimp only at hSw); first | (go_simp; done) | (go_simp; with_reducible rfl)
      simp only [Act.put, List.setIfInBounds_toArray, List.set_cons_zero, List.set_cons_succ]
      refine wpAnyH_take (i := 16) (v := ?_) (by simp only [List.getElem?_toArray, List.getElem?_cons_succ, List.getElem?_cons_zero]; rfl) (by kernel_rfl) (by kernel_rfl) (by kernel_rfl) (fun _ _ _ h => h) (Or.inl ⟨by rfl, ?_⟩) (by assumption) ?_
      rotate_left
      · intro w hSw; (try dsimp only at hSw); first | (go_simp; done) | (go_simp; with_reducible rfl)
      simp only [Act.put, List.setIfInBounds_toArray, List.set_cons_zero, List.set_cons_succ]
      refine wpAnyH_take (i := 17) (v := ?_) (by simp only [List.getElem?_toArray, List.getElem?_cons_succ, List.getElem?_cons_zero]; rfl) (by kernel_rfl) (by kernel_rfl) (by kernel_rfl) (fun _ _ _ h => h) (Or.inl ⟨by rfl, ?_⟩) (by assumption) ?_
      rotate_left
      · intro w hSw; (try dsimp only at hSw); first | (go_simp; done) | (go_simp; with_reducible rfl)
      simp only [Act.put, List.setIfInBounds_toArray, List.set_cons_zero, List.set_cons_succ]
      refine wpAnyH_take (i := 18) (v := ?_) (by simp only [List.getElem?_toArray, List.getElem?_cons_succ, List.getElem?_cons_zero]; rfl) (by kernel_rfl) (by kernel_rfl) (by kernel_rfl) (fun _ _ _ h => h) (Or.inl ⟨by rfl, ?_⟩) (by assumption) ?_
      rotate_left
      · intro w hSw; (try dsimp only at hSw); first | (go_simp; done) | (go_simp; with_reducible rfl)
      simp only [Act.put, List.setIfInBounds_toArray, List.set_cons_zero, List.set_cons_succ]
      refine wpAnyH_ready (rs := [14]) (by kernel_rfl) (by simp) ?_
      refine AllReadyH.cons (by simp only [List.getElem?_toArray, List.getElem?_cons_succ, List.getElem?_cons_zero]; rfl) (fun K hK => ?_) AllReadyH.nil
      try go_simp
      (go_at_call 11; refine (HS3.out _ (by first | assumption | exact Below.refl _ _ | (repeat' first | assumption | exact Below.refl _ _ | apply kp_alloc | apply Below.drew))).mono ?_; rintro e w5 ⟨rfl, b5⟩; have k5 : Below W1.heap.size W1 w5 := (by refine trans9 ?_ b5; (repeat' first | assumption | exact Below.refl _ _ | exact Nat.le_refl _ | apply kp_alloc | apply kp_set | apply Below.drew | omega)))
      refine hK.out _ _ ?_ (fun hHeld => ?_)
      · first | assumption | exact Below.drew (by assumption)
      clear hK K
      try simp only [Act.put, List.setIfInBounds_toArray, List.set_cons_zero, List.set_cons_succ]
      refine wpAnyH_take (i := 19) (v := ?_) (by simp only [List.getElem?_toArray, List.getElem?_cons_succ, List.getElem?_cons_zero]; rfl) (by kernel_rfl) (by kernel_rfl) (by kernel_rfl) (fun _ _ _ h => h) (Or.inl ⟨by rfl, ?_⟩) (by assumption) ?_
      rotate_left
      · intro w hSw; (try dsimp only at hSw); first | (go_simp; done) | (go_simp; with_reducible rfl)
      simp only [Act.put, List.setIfInBounds_toArray, List.set_cons_zero, List.set_cons_succ]
      refine wpAnyH_take (i := 20) (v := ?_) (by simp only [List.getElem?_toArray, List.getElem?_cons_succ, List.getElem?_cons_zero]; rfl) (by kernel_rfl) (by kernel_rfl) (by kernel_rfl) (fun _ _ _ h => h) (Or.inl ⟨by rfl, ?_⟩) (by assumption) ?_
      rotate_left
      · intro w hSw; (try dsimp only at hSw); first | (go_simp; done) | (go_simp; with_reducible rfl)
      simp only [Act.put, List.setIfInBounds_toArray, List.set_cons_zero, List.set_cons_succ]
      refine wpAnyH_take (i := 21) (v := ?_) (by simp only [List.getElem?_toArray, List.getElem?_cons_succ, List.getElem?_cons_zero]; rfl) (by kernel_rfl) (by kernel_rfl) (by kernel_rfl) (fun _ _ _ h => h) (Or.inl ⟨by rfl, ?_⟩) (by assumption) ?_
      rotate_left
      · intro w hSw; (try dsimp only at hSw); first | (go_simp; done) | (go_simp; with_reducible rfl)
      simp only [Act.put, List.setIfInBounds_toArray, List.set_cons_zero, List.set_cons_succ]
      refine wpAnyH_done (by kernel_rfl) ?_ _
      refine NoPanic.normal ?_
      go_wp2_with fail
      go_ret
      exact ⟨rfl, trans9 K6.out (by (repeat' first | assumption | exact Below.refl _ _ | exact Nat.le_refl _ | apply kp_alloc | apply kp_set | apply Below.drew | omega))⟩
    · have e0 := decide_eq_false hst
      have e1 : (s == t) = false := by simpa using hst
      rw [e0] at HS3
      clear e0 hst
      go_wp2_with fail
      refine wp_region_noPanic ?_
      refine wp_region_held_drew (S := fun z => Below W1.heap.size W1 z) (by kernel_rfl) ?_ (fun hHeld => ?_)
      · exact Below.drew (Below.refl _ _)
      refine wpAnyH_take (i := 0) (v := ?_) (by simp only [List.getElem?_toArray, List.getElem?_cons_succ, List.getElem?_cons_zero]; rfl) (by kernel_rfl) (by kernel_rfl) (by kernel_rfl) (fun _ _ _ h => h) (Or.inl ⟨by rfl, ?_⟩) (by assumption) ?_
      rotate_left
      · intro w hSw; (try dsimp only at hSw); first | (go_simp; done) | (go_simp; with_reducible rfl)
      simp only [Act.put, List.setIfInBounds_toArray, List.set_cons_zero, List.set_cons_succ]
      refine wpAnyH_take (i := 1) (v := ?_) (by simp only [List.getElem?_toArray, List.getElem?_cons_succ, List.getElem?_cons_zero]; rfl) (by kernel_rfl) (by kernel_rfl) (by kernel_rfl) (fun _ _ _ h => h) (Or.inl ⟨by rfl, ?_⟩) (by assumption) ?_
      rotate_left
      · intro w hSw; (try dsimp only at hSw); first | (go_simp; done) | (go_simp; with_reducible rfl)
      simp only [Act.put, List.setIfInBounds_toArray, List.set_cons_zero, List.set_cons_succ]
      refine wpAnyH_ready (rs := [2]) (by kernel_rfl) (by simp) ?_
      refine AllReadyH.cons (by simp only [List.getElem?_toArray, List.getElem?_cons_succ, List.getElem?_cons_zero]; rfl) (fun K hK => ?_) AllReadyH.nil
      try go_simp
      (go_at_call 11; refine (HS1.out _ (by first | assumption | exact Below.refl _ _ | (repeat' first | assumption | exact Below.refl _ _ | apply kp_alloc | apply Below.drew))).mono ?_; rintro e w2 ⟨rfl, b2⟩; have k2 : Below W1.heap.size W1 w2 := (by refine trans9 ?_ b2; (repeat' first | assumption | exact Below.refl _ _ | exact Nat.le_refl _ | apply kp_alloc | apply kp_set | apply Below.drew | omega)))
      refine hK.out _ _ ?_ (fun hHeld => ?_)
      · first | assumption | exact Below.drew (by assumption)
      clear hK K
      try simp only [Act.put, List.setIfInBounds_toArray, List.set_cons_zero, List.set_cons_succ]
      refine wpAnyH_take (i := 3) (v := ?_) (by simp only [List.getElem?_toArray, List.getElem?_cons_succ, List.getElem?_cons_zero]; rfl) (by kernel_rfl) (by kernel_rfl) (by kernel_rfl) (fun _ _ _ h => h) (Or.inl ⟨by rfl, ?_⟩) (by assumption) ?_
      rotate_left
      · intro w hSw; (try dsimp only at hSw); first | (go_simp; done) | (go_simp; with_reducible rfl)
      simp only [Act.put, List.setIfInBounds_toArray, List.set_cons_zero, List.set_cons_succ]
      refine wpAnyH_take (i := 4) (v := ?_) (by simp only [List.getElem?_toArray, List.getElem?_cons_succ, List.getElem?_cons_zero]; rfl) (by kernel_rfl) (by kernel_rfl) (by kernel_rfl) (fun _ _ _ h => h) (Or.inl ⟨by rfl, ?_⟩) (by assumption) ?_
      rotate_left
      · intro w hSw; (try dsimp only at hSw); first | (go_simp; done) | (go_simp; with_reducible rfl)
      simp only [Act.put, List.setIfInBounds_toArray, List.set_cons_zero, List.set_cons_succ]
      refine wpAnyH_take (i := 5) (v := ?_) (by simp only [List.getElem?_toArray, List.getElem?_cons_succ, List.getElem?_cons_zero]; rfl) (by kernel_rfl) (by kernel_rfl) (by kernel_rfl) (fun _ _ _ h => h) (Or.inl ⟨by rfl, ?_⟩) (by assumption) ?_
      rotate_left
      · intro w hSw; (try dsimp only at hSw); first | (go_simp; done) | (go_simp; with_reducible rfl)
      simp only [Act.put, List.setIfInBounds_toArray, List.set_cons_zero, List.set_cons_succ]
      refine wpAnyH_take (i := 6) (v := ?_) (by simp only [List.getElem?_toArray, List.getElem?_cons_succ, List.getElem?_cons_zero]; rfl) (by kernel_rfl) (by kernel_rfl) (by kernel_rfl) (fun _ _ _ h => h) (Or.inl ⟨by rfl, ?_⟩) (by assumption) ?_
      rotate_left
      · intro w hSw; (try dsimp only at hSw); first | (go_simp; done) | (go_simp; with_reducible rfl)
      simp only [Act.put, List.setIfInBounds_toArray, List.set_cons_zero, List.set_cons_succ]
      refine wpAnyH_take (i := 8) (v := ?_) (by simp only [List.getElem?_toArray, List.getElem?_cons_succ, List.getElem?_cons_zero]; rfl) (by kernel_rfl) (by kernel_rfl) (by kernel_rfl) (fun _ _ _ h => h) (Or.inl ⟨by rfl, ?_⟩) (by assumption) ?_
      rotate_left
      · intro w hSw; (try dsimp only at hSw); first | (go_simp; done) | (go_simp; with_reducible rfl)
      simp only [Act.put, List.setIfInBounds_toArray, List.set_cons_zero, List.set_cons_succ]
      refine wpAnyH_ready (rs := [7]) (by kernel_rfl) (by simp) ?_
      refine AllReadyH.cons (by simp only [List.getElem?_toArray, List.getElem?_cons_succ, List.getElem?_cons_zero]; rfl) (fun K hK => ?_) AllReadyH.nil
      try go_simp
      (go_at_call 14; refine (HSt.out _ (by first | assumption | exact Below.refl _ _ | (repeat' first | assumption | exact Below.refl _ _ | apply kp_alloc | apply Below.drew))).mono ?_; rintro e w3 ⟨⟨A3, n3, cap3, M3, rfl, row3, hM3⟩, b3⟩; have k3 : Below W1.heap.size W1 w3 := (by refine trans9 ?_ b3; (repeat' first | assumption | exact Below.refl _ _ | exact Nat.le_refl _ | apply kp_alloc | apply kp_set | apply Below.drew | omega)))
      refine hK.out _ _ ?_ (fun hHeld => ?_)
      · first | assumption | exact Below.drew (by assumption)
      clear hK K
      try simp only [Act.put, List.setIfInBounds_toArray, List.set_cons_zero, List.set_cons_succ]
      refine wpAnyH_ready (rs := [9]) (by kernel_rfl) (by simp) ?_
      refine AllReadyH.cons (by simp only [List.getElem?_toArray, List.getElem?_cons_succ, List.getElem?_cons_zero]; rfl) (fun K hK => ?_) AllReadyH.nil
      try go_simp
      (go_at_call 11; refine (HS2.out _ (by first | assumption | exact Below.refl _ _ | (repeat' first | assumption | exact Below.refl _ _ | apply kp_alloc | apply Below.drew)) _ M3 (by first | exact row3.row | exact row3.row.below (Below.drew (Below.refl _ _))) hM3).mono ?_; rintro e w4 ⟨rfl, b4⟩; have k4 : Below W1.heap.size W1 w4 := (by refine trans9 ?_ b4; (repeat' first | assumption | exact Below.refl _ _ | exact Nat.le_refl _ | apply kp_alloc | apply kp_set | apply Below.drew | omega)))
      refine hK.out _ _ ?_ (fun hHeld => ?_)
      · first | assumption | exact Below.drew (by assumption)
      clear hK K
      try simp only [Act.put, List.setIfInBounds_toArray, List.set_cons_zero, List.set_cons_succ]
      refine wpAnyH_take (i := 10) (v := ?_) (by simp only [List.getElem?_toArray, List.getElem?_cons_succ, List.getElem?_cons_zero]; rfl) (by kernel_rfl) (by kernel_rfl) (by kernel_rfl) (fun _ _ _ h => h) (Or.inl ⟨by rfl, ?_⟩) (by assumption) ?_
      rotate_left
      · intro w hSw; (try dsimp only at hSw); first | (go_simp; done) | (go_simp; with_reducible rfl)
      simp only [Act.put, List.setIfInBounds_toArray, List.set_cons_zero, List.set_cons_succ]
      refine wpAnyH_take (i := 11) (v := ?_) (by simp only [List.getElem?_toArray, List.getElem?_cons_succ, List.getElem?_cons_zero]; rfl) (by kernel_rfl) (by kernel_rfl) (by kernel_rfl) (fun _ _ _ h => h) (Or.inl ⟨by rfl, ?_⟩) (by assumption) ?_
      rotate_left
      · intro w hSw; (try dsimp only at hSw); first | (go_simp; done) | (go_simp; with_reducible rfl)
      simp only [Act.put, List.setIfInBounds_toArray, List.set_cons_zero, List.set_cons_succ]
      refine wpAnyH_take (i := 12) (v := ?_) (by simp only [List.getElem?_toArray, List.getElem?_cons_succ, List.getElem?_cons_zero]; rfl) (by kernel_rfl) (by kernel_rfl) (by kernel_rfl) (fun _ _ _ h => h) (Or.inl ⟨by rfl, ?_⟩) (by assumption) ?_
      rotate_left
      · intro w hSw; (try dsimp only at hSw); first | (go_simp; done) | (go_simp; with_reducible rfl)
      simp only [Act.put, List.setIfInBounds_toArray, List.set_cons_zero, List.set_cons_succ]
      refine wpAnyH_take (i := 13) (v := ?_) (by simp only [List.getElem?_toArray, List.getElem?_cons_succ, List.getElem?_cons_zero]; rfl) (by kernel_rfl) (by kernel_rfl) (by kernel_rfl) (fun _ _ _ h => h) (Or.inl ⟨by rfl, ?_⟩) (by assumption) ?_
      rotate_left
      · intro w hSw; (try dsimp only at hSw); first | (go_simp; done) | (go_simp; with_reducible rfl)
      simp only [Act.put, List.setIfInBounds_toArray, List.set_cons_zero, List.set_cons_succ]
      refine wpAnyH_take (i := 15) (v := ?_) (by simp only [List.getElem?_toArray, List.getElem?_cons_succ, List.getElem?_cons_zero]; rfl) (by kernel_rfl) (by kernel_rfl) (by kernel_rfl) (fun _ _ _ h => h) (Or.inl ⟨by rfl, ?_⟩) (by assumption) ?_
      rotate_left
      · intro w hSw; (try dsimp only at hSw); first | (go_simp; done) | (go_simp; with_reducible rfl)
      simp only [Act.put, List.setIfInBounds_toArray, List.set_cons_zero, List.set_cons_succ]
      refine wpAnyH_take (i := 16) (v := ?_) (by simp only [List.getElem?_toArray, List.getElem?_cons_succ, List.getElem?_cons_zero]; rfl) (by kernel_rfl) (by kernel_rfl) (by kernel_rfl) (fun _ _ _ h => h) (Or.inl ⟨by rfl, ?_⟩) (by assumption) ?_
      rotate_left
      · intro w hSw; (try dsimp only at hSw); first | (go_simp; done) | (go_simp; with_reducible rfl)
      simp only [Act.put, List.setIfInBounds_toArray, List.set_cons_zero, List.set_cons_succ]
      refine wpAnyH_take (i := 17) (v := ?_) (by simp only [List.getElem?_toArray, List.getElem?_cons_succ, List.getElem?_cons_zero]; rfl) (by kernel_rfl) (by kernel_rfl) (by kernel_rfl) (fun _ _ _ h => h) (Or.inl ⟨by rfl, ?_⟩) (by assumption) ?_
      rotate_left
      · intro w hSw; (try dsimp only at hSw); first | (go_simp; done) | (go_simp; with_reducible rfl)
      simp only [Act.put, List.setIfInBounds_toArray, List.set_cons_zero, List.set_cons_succ]
      refine wpAnyH_take (i := 18) (v := ?_) (by simp only [List.getElem?_toArray, List.getElem?_cons_succ, List.getElem?_cons_zero]; rfl) (by kernel_rfl) (by kernel_rfl) (by kernel_rfl) (fun _ _ _ h => h) (Or.inl ⟨by rfl, ?_⟩) (by assumption) ?_
      rotate_left
      · intro w hSw; (try dsimp only at hSw); first | (go_simp; done) | (go_simp; with_reducible rfl)
      simp only [Act.put, List.setIfInBounds_toArray, List.set_cons_zero, List.set_cons_succ]
      refine wpAnyH_ready (rs := [14]) (by kernel_rfl) (by simp) ?_
      refine AllReadyH.cons (by simp only [List.getElem?_toArray, List.getElem?_cons_succ, List.getElem?_cons_zero]; rfl) (fun K hK => ?_) AllReadyH.nil
      try go_simp
      (go_at_call 11; refine (HS3.out _ (by first | assumption | exact Below.refl _ _ | (repeat' first | assumption | exact Below.refl _ _ | apply kp_alloc | apply Below.drew))).mono ?_; rintro e w5 ⟨rfl, b5⟩; have k5 : Below W1.heap.size W1 w5 := (by refine trans9 ?_ b5; (repeat' first | assumption | exact Below.refl _ _ | exact Nat.le_refl _ | apply kp_alloc | apply kp_set | apply Below.drew | omega)))
      refine hK.out _ _ ?_ (fun hHeld => ?_)
      · first | assumption | exact Below.drew (by assumption)
      clear hK K
      try simp only [Act.put, List.setIfInBounds_toArray, List.set_cons_zero, List.set_cons_succ]
      refine wpAnyH_take (i := 19) (v := ?_) (by simp only [List.getElem?_toArray, List.getElem?_cons_succ, List.getElem?_cons_zero]; rfl) (by kernel_rfl) (by kernel_rfl) (by kernel_rfl) (fun _ _ _ h => h) (Or.inl ⟨by rfl, ?_⟩) (by assumption) ?_
      rotate_left
      · intro w hSw; (try dsimp only at hSw); first | (go_simp; done) | (go_simp; with_reducible rfl)
      simp only [Act.put, List.setIfInBounds_toArray, List.set_cons_zero, List.set_cons_succ]
      refine wpAnyH_take (i := 20) (v := ?_) (by simp only [List.getElem?_toArray, List.getElem?_cons_succ, List.getElem?_cons_zero]; rfl) (by kernel_rfl) (by kernel_rfl) (by kernel_rfl) (fun _ _ _ h => h) (Or.inl ⟨by rfl, ?_⟩) (by assumption) ?_
      rotate_left
      · intro w hSw; (try dsimp only at hSw); first | (go_simp; done) | (go_simp; with_reducible rfl)
      simp only [Act.put, List.setIfInBounds_toArray, List.set_cons_zero, List.set_cons_succ]
      refine wpAnyH_take (i := 21) (v := ?_) (by simp only [List.getElem?_toArray, List.getElem?_cons_succ, List.getElem?_cons_zero]; rfl) (by kernel_rfl) (by kernel_rfl) (by kernel_rfl) (fun _ _ _ h => h) (Or.inl ⟨by rfl, ?_⟩) (by assumption) ?_
      rotate_left
      · intro w hSw; (try dsimp only at hSw); first | (go_simp; done) | (go_simp; with_reducible rfl)
      simp only [Act.put, List.setIfInBounds_toArray, List.set_cons_zero, List.set_cons_succ]
      refine wpAnyH_done (by kernel_rfl) ?_ _
      refine NoPanic.normal ?_
      go_wp2_with fail
      go_ret
      exact ⟨rfl, trans9 K6.out (by (repeat' first | assumption | exact Below.refl _ _ | exact Nat.le_refl _ | apply kp_alloc | apply kp_set | apply Below.drew | omega))⟩

theorem of_text (t : List UInt8) (s : ByteArray) (F : List Fs) (v : Value) (w : World) (hv : FmRow w v F) (ht : t.length ≤ maxLen) (hs : s.size ≤ maxLen) (hT : ShPl w) :
    Calls Tryz.prog 5 #[batv t v, .string s] w fun e w' => e = .returned (.bool true) ∧ Below w.heap.size w w' := by
  have e := str_self s
  rw [e]
  exact law_of t s.data.toList F v w hv ht (by rw [← str_size, ← e]; exact hs) hT

end Go.Proofs.YtkmcjmpdmgdcoaaGreatDoor
