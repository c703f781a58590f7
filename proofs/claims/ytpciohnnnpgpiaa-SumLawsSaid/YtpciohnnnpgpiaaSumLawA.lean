/- The walk of the law SumLaws. -/
import Derived.Test.YtpciohnnnpgpiaaSumL
import Derived.Test.YtpciohnnnpgpiaaFrame
import Derived.Deep.DeepCutAuto
import Derived.Deep.DeepCutAuto
namespace Go.Proofs.Ytpciohnnnpgpiaa
open Go.RowKit Dc
attribute [local go_sem ↓] Go.wp_at_zero Go.wp_at_succ

set_option maxRecDepth 100000 in
set_option maxHeartbeats 8000000 in
theorem laws_walk (m n x y : Int) (w : World) (hm : -9223372036854775808 ≤ m) (hm2 : m ≤ 9223372036854775807) (hn : -9223372036854775808 ≤ n) (hn2 : n ≤ 9223372036854775807) (hx : 0 ≤ x) (hx2 : x ≤ 255) (hy : 0 ≤ y) (hy2 : y ≤ 255) :
    Calls Try.prog 4 #[.int .i64 m, .int .i64 n, .int .u8 x, .int .u8 y] w fun e w' => e = .returned (.bool true) ∧ Below w.heap.size w w' := by
  have hdp := Lib.hid (fun W => dot_calls m (x % 19) W hm hm2 (by omega) (by omega))
  have gp := Gd.dot m (x % 19)
  obtain ⟨p, hp⟩ : ∃ u, u = (dotO m (x % 19)).1 := ⟨_, rfl⟩
  obtain ⟨i, hi⟩ : ∃ u, u = (dotO m (x % 19)).2 := ⟨_, rfl⟩
  rw [← hp, ← hi] at hdp gp
  clear hp hi
  have hdq := Lib.hid (fun W => dot_calls n (y % 19) W hn hn2 (by omega) (by omega))
  have gq := Gd.dot n (y % 19)
  obtain ⟨q, hq⟩ : ∃ u, u = (dotO n (y % 19)).1 := ⟨_, rfl⟩
  obtain ⟨j, hj⟩ : ∃ u, u = (dotO n (y % 19)).2 := ⟨_, rfl⟩
  rw [← hq, ← hj] at hdq gq
  clear hq hj
  obtain ⟨x1, x2, x3, hxf⟩ := normV_form (decI (zv p i + zv q j))
  obtain ⟨c1, c2, c3, hcf⟩ := normV_form (timesO p i q j)
  have hA1 := Lib.hid (fun W v hv => add2_calls gp gq v W hv)
  have hA2 := Lib.hid (fun W v hv => add2_calls gq gp v W hv)
  have hA3 := Lib.hid (fun W v hv => add2_calls gp gp.neg v W hv)
  have hA4 := Lib.hid (fun W v hv => add2_calls gp Gd.zero v W hv)
  rw [Int.add_comm, hxf] at hA2
  rw [hxf] at hA1
  rw [zv_negate, Int.add_right_neg, show normV (decI 0) = Value.tuple #[dv2 0 0, .bool true] from rfl] at hA3
  rw [zv_zero, Int.add_zero, gp.decI, show normV (some (p, i.toNat)) = Value.tuple #[dv2 p ((i.toNat : Nat) : Int), .bool true] from rfl, show ((i.toNat : Nat) : Int) = i by have := gp.s0; omega] at hA4
  have hT1 := Lib.hid (fun W => times_of p i q j W _ rfl gp.lo gp.hi gq.lo gq.hi)
  have hT2 := Lib.hid (fun W => times_of q j p i W _ (timesO_comm p i q j) gq.lo gq.hi gp.lo gp.hi)
  rw [hcf] at hT1 hT2
  have hT3 := Lib.hid (fun W => times_of p i 1 0 W _ (timesO_one gp) gp.lo gp.hi (by decide) (by decide))
  rw [show normV (some (p, i.toNat)) = Value.tuple #[dv2 p ((i.toNat : Nat) : Int), .bool true] from rfl, show ((i.toNat : Nat) : Int) = i by have := gp.s0; omega] at hT3
  have hT4 := Lib.hid (fun W => times_of p i 0 0 W _ (timesO_zero gp) gp.lo gp.hi (by decide) (by decide))
  rw [show normV (some (0, 0)) = Value.tuple #[dv2 0 0, .bool true] from rfl] at hT4
  have hN1 := Lib.hid (fun W => neg_calls gp W)
  have hN2 := Lib.hid (fun W => neg_calls gp.neg W)
  rw [Int.neg_neg] at hN2
  have hD1 := Lib.hid (fun W => dot_of 1 0 1 0 (by decide) (by decide) (by decide) W)
  have kB := Below.refl w.heap.size w
  clear hxf hcf gp gq hm hm2 hn hn2
  go_enter Try.func4, Try.ntmps4
  go_wp2_with fail
  refine (known_calls _).mono ?_; rintro e w1 ⟨rfl, b1⟩
  replace kB := kB.trans (b1.mono kB.size)
  clear b1
  go_wp2_with fail
  refine (hdp.out _).mono ?_; rintro e w2 ⟨rfl, b2⟩
  replace kB := kB.trans (b2.mono kB.size)
  clear b2
  go_wp2_with fail
  refine (hdq.out _).mono ?_; rintro e w3 ⟨rfl, b3⟩
  replace kB := kB.trans (b3.mono kB.size)
  clear b3
  replace kB := kb_alloc kB (Nat.le_refl _) (.cells #[.int .i64 p, .int .i64 i] 25)
  have kd9 := DecAt.new w3 p i
  replace kB := kb_alloc kB (Nat.le_refl _) (.cells #[.int .i64 q, .int .i64 j] 25)
  replace kd9 := kd9.alloc (.cells #[.int .i64 q, .int .i64 j] 25)
  have kd10 := DecAt.new (w3.alloc (.cells #[.int .i64 p, .int .i64 i] 25)) q j
  go_upto_region 4 with (fail)
  obtain ⟨W4, hcur⟩ : ∃ uu, uu = (w3.alloc (.cells #[.int .i64 p, .int .i64 i] 25)).alloc (.cells #[.int .i64 q, .int .i64 j] 25) := ⟨_, rfl⟩
  rw [← hcur] at kB kd9 kd10 ⊢
  clear hcur
  rw [show (w3.alloc (.cells #[.int .i64 p, .int .i64 i] 25)).heap.size = w3.heap.size + 1 by simp] at kd10
  obtain ⟨z10, hcur⟩ : ∃ uu, uu = w3.heap.size + 1 := ⟨_, rfl⟩
  rw [← hcur] at kd10 ⊢
  clear hcur
  obtain ⟨z9, hcur⟩ : ∃ uu, uu = w3.heap.size := ⟨_, rfl⟩
  rw [← hcur] at kd9 ⊢
  clear hcur
  have c0d9 := kd9.c0; have c1d9 := kd9.c1; have c0d10 := kd10.c0; have c1d10 := kd10.c1
  go_wp2_with fail
  clear c0d9 c1d9 c0d10 c1d10
  have krow := row2 W4 p i q j
  replace kB := kb_alloc kB (Nat.le_refl _) (.cells #[.int .i64 p, .int .i64 i, .int .i64 q, .int .i64 j] 25)
  replace kd9 := kd9.alloc (.cells #[.int .i64 p, .int .i64 i, .int .i64 q, .int .i64 j] 25)
  replace kd10 := kd10.alloc (.cells #[.int .i64 p, .int .i64 i, .int .i64 q, .int .i64 j] 25)
  refine (hA1.out _ _ krow).mono ?_; rintro e w5 ⟨rfl, b5⟩
  replace kB := kB.trans (b5.mono kB.size)
  replace kd9 := kd9.below b5
  replace kd10 := kd10.below b5
  clear b5
  clear krow
  replace kB := kb_alloc kB (Nat.le_refl _) (.cells #[.int .i64 x1, .int .i64 x2] 25)
  replace kd9 := kd9.alloc (.cells #[.int .i64 x1, .int .i64 x2] 25)
  replace kd10 := kd10.alloc (.cells #[.int .i64 x1, .int .i64 x2] 25)
  have kd11 := DecAt.new w5 x1 x2
  go_upto_region 5 with (fail)
  obtain ⟨W6, hcur⟩ : ∃ uu, uu = w5.alloc (.cells #[.int .i64 x1, .int .i64 x2] 25) := ⟨_, rfl⟩
  rw [← hcur] at kB kd9 kd10 kd11 ⊢
  clear hcur
  obtain ⟨z11, hcur⟩ : ∃ uu, uu = w5.heap.size := ⟨_, rfl⟩
  rw [← hcur] at kd11 ⊢
  clear hcur
  have c0d9 := kd9.c0; have c1d9 := kd9.c1; have c0d10 := kd10.c0; have c1d10 := kd10.c1
  go_wp2_with fail
  clear c0d9 c1d9 c0d10 c1d10
  have krow := row2 W6 q j p i
  replace kB := kb_alloc kB (Nat.le_refl _) (.cells #[.int .i64 q, .int .i64 j, .int .i64 p, .int .i64 i] 25)
  replace kd9 := kd9.alloc (.cells #[.int .i64 q, .int .i64 j, .int .i64 p, .int .i64 i] 25)
  replace kd10 := kd10.alloc (.cells #[.int .i64 q, .int .i64 j, .int .i64 p, .int .i64 i] 25)
  replace kd11 := kd11.alloc (.cells #[.int .i64 q, .int .i64 j, .int .i64 p, .int .i64 i] 25)
  refine (hA2.out _ _ krow).mono ?_; rintro e w7 ⟨rfl, b7⟩
  replace kB := kB.trans (b7.mono kB.size)
  replace kd9 := kd9.below b7
  replace kd10 := kd10.below b7
  replace kd11 := kd11.below b7
  clear b7
  clear krow
  replace kB := kb_alloc kB (Nat.le_refl _) (.cells #[.int .i64 x1, .int .i64 x2] 25)
  replace kd9 := kd9.alloc (.cells #[.int .i64 x1, .int .i64 x2] 25)
  replace kd10 := kd10.alloc (.cells #[.int .i64 x1, .int .i64 x2] 25)
  replace kd11 := kd11.alloc (.cells #[.int .i64 x1, .int .i64 x2] 25)
  have kd13 := DecAt.new w7 x1 x2
  go_upto_region 6 with (fail)
  obtain ⟨W8, hcur⟩ : ∃ uu, uu = w7.alloc (.cells #[.int .i64 x1, .int .i64 x2] 25) := ⟨_, rfl⟩
  rw [← hcur] at kB kd9 kd10 kd11 kd13 ⊢
  clear hcur
  obtain ⟨z13, hcur⟩ : ∃ uu, uu = w7.heap.size := ⟨_, rfl⟩
  rw [← hcur] at kd13 ⊢
  clear hcur
  have c0d9 := kd9.c0; have c1d9 := kd9.c1; have c0d10 := kd10.c0; have c1d10 := kd10.c1
  go_wp2_with fail
  clear c0d9 c1d9 c0d10 c1d10
  refine (hT1.out _).mono ?_; rintro e w9 ⟨rfl, b9⟩
  replace kB := kB.trans (b9.mono kB.size)
  replace kd9 := kd9.below b9
  replace kd10 := kd10.below b9
  replace kd11 := kd11.below b9
  replace kd13 := kd13.below b9
  clear b9
  replace kB := kb_alloc kB (Nat.le_refl _) (.cells #[.int .i64 c1, .int .i64 c2] 25)
  replace kd9 := kd9.alloc (.cells #[.int .i64 c1, .int .i64 c2] 25)
  replace kd10 := kd10.alloc (.cells #[.int .i64 c1, .int .i64 c2] 25)
  replace kd11 := kd11.alloc (.cells #[.int .i64 c1, .int .i64 c2] 25)
  replace kd13 := kd13.alloc (.cells #[.int .i64 c1, .int .i64 c2] 25)
  have kd15 := DecAt.new w9 c1 c2
  go_upto_region 7 with (fail)
  obtain ⟨W10, hcur⟩ : ∃ uu, uu = w9.alloc (.cells #[.int .i64 c1, .int .i64 c2] 25) := ⟨_, rfl⟩
  rw [← hcur] at kB kd9 kd10 kd11 kd13 kd15 ⊢
  clear hcur
  obtain ⟨z15, hcur⟩ : ∃ uu, uu = w9.heap.size := ⟨_, rfl⟩
  rw [← hcur] at kd15 ⊢
  clear hcur
  have c0d9 := kd9.c0; have c1d9 := kd9.c1; have c0d10 := kd10.c0; have c1d10 := kd10.c1
  go_wp2_with fail
  clear c0d9 c1d9 c0d10 c1d10
  refine (hT2.out _).mono ?_; rintro e w11 ⟨rfl, b11⟩
  replace kB := kB.trans (b11.mono kB.size)
  replace kd9 := kd9.below b11
  replace kd10 := kd10.below b11
  replace kd11 := kd11.below b11
  replace kd13 := kd13.below b11
  replace kd15 := kd15.below b11
  clear b11
  replace kB := kb_alloc kB (Nat.le_refl _) (.cells #[.int .i64 c1, .int .i64 c2] 25)
  replace kd9 := kd9.alloc (.cells #[.int .i64 c1, .int .i64 c2] 25)
  replace kd10 := kd10.alloc (.cells #[.int .i64 c1, .int .i64 c2] 25)
  replace kd11 := kd11.alloc (.cells #[.int .i64 c1, .int .i64 c2] 25)
  replace kd13 := kd13.alloc (.cells #[.int .i64 c1, .int .i64 c2] 25)
  replace kd15 := kd15.alloc (.cells #[.int .i64 c1, .int .i64 c2] 25)
  have kd17 := DecAt.new w11 c1 c2
  go_upto_region 8 with (fail)
  obtain ⟨W12, hcur⟩ : ∃ uu, uu = w11.alloc (.cells #[.int .i64 c1, .int .i64 c2] 25) := ⟨_, rfl⟩
  rw [← hcur] at kB kd9 kd10 kd11 kd13 kd15 kd17 ⊢
  clear hcur
  obtain ⟨z17, hcur⟩ : ∃ uu, uu = w11.heap.size := ⟨_, rfl⟩
  rw [← hcur] at kd17 ⊢
  clear hcur
  go_cut [19, 20] (fun s1 s2 wx => ∃ z19, s1 = .pointer (some ⟨z19, 0, none⟩) ∧ s2 = .bool true ∧ Below w.heap.size w wx ∧ DecAt wx z9 p i ∧ DecAt wx z10 q j ∧ DecAt wx z11 x1 x2 ∧ DecAt wx z13 x1 x2 ∧ DecAt wx z15 c1 c2 ∧ DecAt wx z17 c1 c2 ∧ DecAt wx z19 0 0)
  case first =>
    refine wp_region_noPanic ?_
    refine wp_region_held_drew (S := fun X => Below w.heap.size w X ∧ DecAt X z9 p i) (by kernel_rfl) ?_ (fun hHeld => ?_)
    · exact ⟨Below.drew kB, DecAt.drew kd9⟩
    replace kB := Below.drew kB
    replace kd9 := DecAt.drew kd9
    replace kd10 := DecAt.drew kd10
    replace kd11 := DecAt.drew kd11
    replace kd13 := DecAt.drew kd13
    replace kd15 := DecAt.drew kd15
    replace kd17 := DecAt.drew kd17
    obtain ⟨qw, hcur⟩ : ∃ uu, uu = W12.drew := ⟨_, rfl⟩
    rw [← hcur] at hHeld kB kd9 kd10 kd11 kd13 kd15 kd17 ⊢
    clear hcur
    refine wpAnyH_take (i := 0) (v := ?_) (by simp only [List.getElem?_toArray, List.getElem?_cons_succ, List.getElem?_cons_zero]; rfl) (by kernel_rfl) (by kernel_rfl) (by kernel_rfl) (fun _ _ _ h => h) (Or.inl ⟨by rfl, ?_⟩) hHeld ?_
    rotate_left
    · intro x hSw; (try dsimp only at hSw); obtain ⟨_, hd9⟩ := hSw; have c0d9 := hd9.c0; have c1d9 := hd9.c1; first | (go_simp; done) | (go_simp; with_reducible rfl)
    try simp only [Act.put, List.setIfInBounds_toArray, List.set_cons_zero, List.set_cons_succ]
    refine wpAnyH_take (i := 1) (v := ?_) (by simp only [List.getElem?_toArray, List.getElem?_cons_succ, List.getElem?_cons_zero]; rfl) (by kernel_rfl) (by kernel_rfl) (by kernel_rfl) (fun _ _ _ h => h) (Or.inl ⟨by rfl, ?_⟩) hHeld ?_
    rotate_left
    · intro x hSw; (try dsimp only at hSw); obtain ⟨_, hd9⟩ := hSw; have c0d9 := hd9.c0; have c1d9 := hd9.c1; first | (go_simp; done) | (go_simp; with_reducible rfl)
    try simp only [Act.put, List.setIfInBounds_toArray, List.set_cons_zero, List.set_cons_succ]
    refine wpAnyH_ready (rs := [2, 8]) (by kernel_rfl) (by simp) ?_
    refine AllReadyH.cons (by simp only [List.getElem?_toArray, List.getElem?_cons_succ, List.getElem?_cons_zero]; rfl) (fun K hK => ?_) ?_
    · try go_simp
      refine (hN1.out _).mono ?_; rintro e wq1 ⟨rfl, q1⟩
      replace kB := kB.trans (q1.mono kB.size)
      replace kd9 := kd9.below q1
      replace kd10 := kd10.below q1
      replace kd11 := kd11.below q1
      replace kd13 := kd13.below q1
      replace kd15 := kd15.below q1
      replace kd17 := kd17.below q1
      clear q1
      try go_wp2_with fail
      refine hK.out _ _ ?_ (fun hHeld => ?_)
      · exact ⟨kB, kd9⟩
      clear hK K
      try simp only [Act.put, List.setIfInBounds_toArray, List.set_cons_zero, List.set_cons_succ]
      refine wpAnyH_ready (rs := [3, 8]) (by kernel_rfl) (by simp) ?_
      refine AllReadyH.cons (by simp only [List.getElem?_toArray, List.getElem?_cons_succ, List.getElem?_cons_zero]; rfl) (fun K hK => ?_) ?_
      · go_simp
        have kw69 := row2 wq1 p i (-p) i
        have hge_bs := kB.size
        have hne_bs_d9 := kd9.lt
        have hne_bs_d10 := kd10.lt
        have hne_bs_d11 := kd11.lt
        have hne_bs_d13 := kd13.lt
        have hne_bs_d15 := kd15.lt
        have hne_bs_d17 := kd17.lt
        replace kd9 := kd9.alloc (.cells #[.int .i64 p, .int .i64 i, .int .i64 (-p), .int .i64 i] 25)
        replace kd10 := kd10.alloc (.cells #[.int .i64 p, .int .i64 i, .int .i64 (-p), .int .i64 i] 25)
        replace kd11 := kd11.alloc (.cells #[.int .i64 p, .int .i64 i, .int .i64 (-p), .int .i64 i] 25)
        replace kd13 := kd13.alloc (.cells #[.int .i64 p, .int .i64 i, .int .i64 (-p), .int .i64 i] 25)
        replace kd15 := kd15.alloc (.cells #[.int .i64 p, .int .i64 i, .int .i64 (-p), .int .i64 i] 25)
        replace kd17 := kd17.alloc (.cells #[.int .i64 p, .int .i64 i, .int .i64 (-p), .int .i64 i] 25)
        replace kB := kb_alloc kB (Nat.le_refl _) (.cells #[.int .i64 p, .int .i64 i, .int .i64 (-p), .int .i64 i] 25)
        obtain ⟨bs, hcur⟩ : ∃ uu, uu = wq1.heap.size := ⟨_, rfl⟩
        rw [← hcur] at hge_bs kw69 hne_bs_d9 hne_bs_d10 hne_bs_d11 hne_bs_d13 hne_bs_d15 hne_bs_d17 ⊢
        clear hcur
        obtain ⟨q2, hcur⟩ : ∃ uu, uu = wq1.alloc (.cells #[.int .i64 p, .int .i64 i, .int .i64 (-p), .int .i64 i] 25) := ⟨_, rfl⟩
        rw [← hcur] at kB kd9 kd10 kd11 kd13 kd15 kd17 kw69 ⊢
        clear hcur
        refine hK.out _ _ ?_ (fun hHeld => ?_)
        · exact ⟨kB, kd9⟩
        clear hK K
        try simp only [Act.put, List.setIfInBounds_toArray, List.set_cons_zero, List.set_cons_succ]
        refine wpAnyH_ready (rs := [4, 8]) (by kernel_rfl) (by simp) ?_
        refine AllReadyH.cons (by simp only [List.getElem?_toArray, List.getElem?_cons_succ, List.getElem?_cons_zero]; rfl) (fun K hK => ?_) ?_
        · try go_simp
          refine (hA3.out _ _ kw69).mono ?_; rintro e wq3 ⟨rfl, q3⟩
          replace kB := kB.trans (q3.mono kB.size)
          replace kd9 := kd9.below q3
          replace kd10 := kd10.below q3
          replace kd11 := kd11.below q3
          replace kd13 := kd13.below q3
          replace kd15 := kd15.below q3
          replace kd17 := kd17.below q3
          replace kw69 := kw69.below q3
          clear q3
          try go_wp2_with fail
          refine hK.out _ _ ?_ (fun hHeld => ?_)
          · exact ⟨kB, kd9⟩
          clear hK K
          try simp only [Act.put, List.setIfInBounds_toArray, List.set_cons_zero, List.set_cons_succ]
          refine wpAnyH_take (i := 5) (v := ?_) (by simp only [List.getElem?_toArray, List.getElem?_cons_succ, List.getElem?_cons_zero]; rfl) (by kernel_rfl) (by kernel_rfl) (by kernel_rfl) (fun _ _ _ h => h) (Or.inl ⟨by rfl, ?_⟩) hHeld ?_
          rotate_left
          · intro x hSw; first | (go_simp; done) | (go_simp; with_reducible rfl)
          try simp only [Act.put, List.setIfInBounds_toArray, List.set_cons_zero, List.set_cons_succ]
          refine wpAnyH_take (i := 6) (v := ?_) (by simp only [List.getElem?_toArray, List.getElem?_cons_succ, List.getElem?_cons_zero]; rfl) (by kernel_rfl) (by kernel_rfl) (by kernel_rfl) (fun _ _ _ h => h) (Or.inl ⟨by rfl, ?_⟩) hHeld ?_
          rotate_left
          · intro x hSw; first | (go_simp; done) | (go_simp; with_reducible rfl)
          try simp only [Act.put, List.setIfInBounds_toArray, List.set_cons_zero, List.set_cons_succ]
          refine wpAnyH_take (i := 7) (v := ?_) (by simp only [List.getElem?_toArray, List.getElem?_cons_succ, List.getElem?_cons_zero]; rfl) (by kernel_rfl) (by kernel_rfl) (by kernel_rfl) (fun _ _ _ h => h) (Or.inl ⟨by rfl, ?_⟩) hHeld ?_
          rotate_left
          · intro x hSw; first | (go_simp; done) | (go_simp; with_reducible rfl)
          try simp only [Act.put, List.setIfInBounds_toArray, List.set_cons_zero, List.set_cons_succ]
          refine wpAnyH_ready (rs := [8]) (by kernel_rfl) (by simp) ?_
          refine AllReadyH.cons (by simp only [List.getElem?_toArray, List.getElem?_cons_succ, List.getElem?_cons_zero]; rfl) (fun K hK => ?_) AllReadyH.nil
          go_simp
          have kd19 := DecAt.new wq3 0 0
          have hge_z19 := kB.size
          have hne_z19_d9 := kd9.lt
          have hne_z19_d10 := kd10.lt
          have hne_z19_d11 := kd11.lt
          have hne_z19_d13 := kd13.lt
          have hne_z19_d15 := kd15.lt
          have hne_z19_d17 := kd17.lt
          replace kd9 := kd9.alloc (.cells #[.int .i64 0, .int .i64 0] 25)
          replace kd10 := kd10.alloc (.cells #[.int .i64 0, .int .i64 0] 25)
          replace kd11 := kd11.alloc (.cells #[.int .i64 0, .int .i64 0] 25)
          replace kd13 := kd13.alloc (.cells #[.int .i64 0, .int .i64 0] 25)
          replace kd15 := kd15.alloc (.cells #[.int .i64 0, .int .i64 0] 25)
          replace kd17 := kd17.alloc (.cells #[.int .i64 0, .int .i64 0] 25)
          replace kw69 := kw69.alloc (.cells #[.int .i64 0, .int .i64 0] 25)
          replace kB := kb_alloc kB (Nat.le_refl _) (.cells #[.int .i64 0, .int .i64 0] 25)
          obtain ⟨z19, hcur⟩ : ∃ uu, uu = wq3.heap.size := ⟨_, rfl⟩
          rw [← hcur] at hge_z19 kd19 hne_z19_d9 hne_z19_d10 hne_z19_d11 hne_z19_d13 hne_z19_d15 hne_z19_d17 ⊢
          clear hcur
          obtain ⟨q4, hcur⟩ : ∃ uu, uu = wq3.alloc (.cells #[.int .i64 0, .int .i64 0] 25) := ⟨_, rfl⟩
          rw [← hcur] at kB kd9 kd10 kd11 kd13 kd15 kd17 kw69 kd19 ⊢
          clear hcur
          refine hK.out _ _ ?_ (fun hHeld => ?_)
          · exact ⟨kB, kd9⟩
          clear hK K
          try simp only [Act.put, List.setIfInBounds_toArray, List.set_cons_zero, List.set_cons_succ]
          refine wpAnyH_ready (rs := [9]) (by kernel_rfl) (by simp) ?_
          refine AllReadyH.cons (by simp only [List.getElem?_toArray, List.getElem?_cons_succ, List.getElem?_cons_zero]; rfl) (fun K hK => ?_) AllReadyH.nil
          have sc0 := kd19.c0; have sc1 := kd19.c1; have sf0 := kd19.f0; have sf1 := kd19.f1
          go_simp
          clear sc0 sc1 sf0 sf1
          replace kB := below_put (g := z19) kB (by omega) (0) (0)
          replace kd9 := kd9.putOther (g := z19) (by omega) (0) (0)
          replace kd10 := kd10.putOther (g := z19) (by omega) (0) (0)
          replace kd11 := kd11.putOther (g := z19) (by omega) (0) (0)
          replace kd13 := kd13.putOther (g := z19) (by omega) (0) (0)
          replace kd15 := kd15.putOther (g := z19) (by omega) (0) (0)
          replace kd17 := kd17.putOther (g := z19) (by omega) (0) (0)
          replace kd19 := kd19.put (0) (0)
          clear kw69
          unfold putDec at kB kd9 kd10 kd11 kd13 kd15 kd17 kd19
          refine hK.out _ _ ?_ (fun hHeld => ?_)
          · exact ⟨kB, kd9⟩
          clear hK K
          try simp only [Act.put, List.setIfInBounds_toArray, List.set_cons_zero, List.set_cons_succ]
          refine wpAnyH_take (i := 10) (v := ?_) (by simp only [List.getElem?_toArray, List.getElem?_cons_succ, List.getElem?_cons_zero]; rfl) (by kernel_rfl) (by kernel_rfl) (by kernel_rfl) (fun _ _ _ h => h) (Or.inl ⟨by rfl, ?_⟩) hHeld ?_
          rotate_left
          · intro x hSw; first | (go_simp; done) | (go_simp; with_reducible rfl)
          try simp only [Act.put, List.setIfInBounds_toArray, List.set_cons_zero, List.set_cons_succ]
          refine wpAnyH_done (by kernel_rfl) ?_ _
          refine NoPanic.normal ?_
          go_wp2_with fail
          go_meet
          exact ⟨z19, rfl, rfl, kB, kd9, kd10, kd11, kd13, kd15, kd17, kd19⟩
        refine AllReadyH.cons (by simp only [List.getElem?_toArray, List.getElem?_cons_succ, List.getElem?_cons_zero]; rfl) (fun K hK => ?_) AllReadyH.nil
        go_simp
        have kd19 := DecAt.new q2 0 0
        have hge_z19 := kB.size
        have hne_z19_d9 := kd9.lt
        have hne_z19_d10 := kd10.lt
        have hne_z19_d11 := kd11.lt
        have hne_z19_d13 := kd13.lt
        have hne_z19_d15 := kd15.lt
        have hne_z19_d17 := kd17.lt
        replace kd9 := kd9.alloc (.cells #[.int .i64 0, .int .i64 0] 25)
        replace kd10 := kd10.alloc (.cells #[.int .i64 0, .int .i64 0] 25)
        replace kd11 := kd11.alloc (.cells #[.int .i64 0, .int .i64 0] 25)
        replace kd13 := kd13.alloc (.cells #[.int .i64 0, .int .i64 0] 25)
        replace kd15 := kd15.alloc (.cells #[.int .i64 0, .int .i64 0] 25)
        replace kd17 := kd17.alloc (.cells #[.int .i64 0, .int .i64 0] 25)
        replace kw69 := kw69.alloc (.cells #[.int .i64 0, .int .i64 0] 25)
        replace kB := kb_alloc kB (Nat.le_refl _) (.cells #[.int .i64 0, .int .i64 0] 25)
        obtain ⟨z19, hcur⟩ : ∃ uu, uu = q2.heap.size := ⟨_, rfl⟩
        rw [← hcur] at hge_z19 kd19 hne_z19_d9 hne_z19_d10 hne_z19_d11 hne_z19_d13 hne_z19_d15 hne_z19_d17 ⊢
        clear hcur
        obtain ⟨q5, hcur⟩ : ∃ uu, uu = q2.alloc (.cells #[.int .i64 0, .int .i64 0] 25) := ⟨_, rfl⟩
        rw [← hcur] at kB kd9 kd10 kd11 kd13 kd15 kd17 kw69 kd19 ⊢
        clear hcur
        refine hK.out _ _ ?_ (fun hHeld => ?_)
        · exact ⟨kB, kd9⟩
        clear hK K
        try simp only [Act.put, List.setIfInBounds_toArray, List.set_cons_zero, List.set_cons_succ]
        refine wpAnyH_ready (rs := [4]) (by kernel_rfl) (by simp) ?_
        refine AllReadyH.cons (by simp only [List.getElem?_toArray, List.getElem?_cons_succ, List.getElem?_cons_zero]; rfl) (fun K hK => ?_) AllReadyH.nil
        try go_simp
        refine (hA3.out _ _ kw69).mono ?_; rintro e wq6 ⟨rfl, q6⟩
        replace kB := kB.trans (q6.mono kB.size)
        replace kd9 := kd9.below q6
        replace kd10 := kd10.below q6
        replace kd11 := kd11.below q6
        replace kd13 := kd13.below q6
        replace kd15 := kd15.below q6
        replace kd17 := kd17.below q6
        replace kd19 := kd19.below q6
        replace kw69 := kw69.below q6
        clear q6
        try go_wp2_with fail
        refine hK.out _ _ ?_ (fun hHeld => ?_)
        · exact ⟨kB, kd9⟩
        clear hK K
        try simp only [Act.put, List.setIfInBounds_toArray, List.set_cons_zero, List.set_cons_succ]
        refine wpAnyH_take (i := 5) (v := ?_) (by simp only [List.getElem?_toArray, List.getElem?_cons_succ, List.getElem?_cons_zero]; rfl) (by kernel_rfl) (by kernel_rfl) (by kernel_rfl) (fun _ _ _ h => h) (Or.inl ⟨by rfl, ?_⟩) hHeld ?_
        rotate_left
        · intro x hSw; first | (go_simp; done) | (go_simp; with_reducible rfl)
        try simp only [Act.put, List.setIfInBounds_toArray, List.set_cons_zero, List.set_cons_succ]
        refine wpAnyH_take (i := 6) (v := ?_) (by simp only [List.getElem?_toArray, List.getElem?_cons_succ, List.getElem?_cons_zero]; rfl) (by kernel_rfl) (by kernel_rfl) (by kernel_rfl) (fun _ _ _ h => h) (Or.inl ⟨by rfl, ?_⟩) hHeld ?_
        rotate_left
        · intro x hSw; first | (go_simp; done) | (go_simp; with_reducible rfl)
        try simp only [Act.put, List.setIfInBounds_toArray, List.set_cons_zero, List.set_cons_succ]
        refine wpAnyH_take (i := 7) (v := ?_) (by simp only [List.getElem?_toArray, List.getElem?_cons_succ, List.getElem?_cons_zero]; rfl) (by kernel_rfl) (by kernel_rfl) (by kernel_rfl) (fun _ _ _ h => h) (Or.inl ⟨by rfl, ?_⟩) hHeld ?_
        rotate_left
        · intro x hSw; first | (go_simp; done) | (go_simp; with_reducible rfl)
        try simp only [Act.put, List.setIfInBounds_toArray, List.set_cons_zero, List.set_cons_succ]
        refine wpAnyH_ready (rs := [9]) (by kernel_rfl) (by simp) ?_
        refine AllReadyH.cons (by simp only [List.getElem?_toArray, List.getElem?_cons_succ, List.getElem?_cons_zero]; rfl) (fun K hK => ?_) AllReadyH.nil
        have sc0 := kd19.c0; have sc1 := kd19.c1; have sf0 := kd19.f0; have sf1 := kd19.f1
        go_simp
        clear sc0 sc1 sf0 sf1
        replace kB := below_put (g := z19) kB (by omega) (0) (0)
        replace kd9 := kd9.putOther (g := z19) (by omega) (0) (0)
        replace kd10 := kd10.putOther (g := z19) (by omega) (0) (0)
        replace kd11 := kd11.putOther (g := z19) (by omega) (0) (0)
        replace kd13 := kd13.putOther (g := z19) (by omega) (0) (0)
        replace kd15 := kd15.putOther (g := z19) (by omega) (0) (0)
        replace kd17 := kd17.putOther (g := z19) (by omega) (0) (0)
        replace kd19 := kd19.put (0) (0)
        clear kw69
        unfold putDec at kB kd9 kd10 kd11 kd13 kd15 kd17 kd19
        refine hK.out _ _ ?_ (fun hHeld => ?_)
        · exact ⟨kB, kd9⟩
        clear hK K
        try simp only [Act.put, List.setIfInBounds_toArray, List.set_cons_zero, List.set_cons_succ]
        refine wpAnyH_take (i := 10) (v := ?_) (by simp only [List.getElem?_toArray, List.getElem?_cons_succ, List.getElem?_cons_zero]; rfl) (by kernel_rfl) (by kernel_rfl) (by kernel_rfl) (fun _ _ _ h => h) (Or.inl ⟨by rfl, ?_⟩) hHeld ?_
        rotate_left
        · intro x hSw; first | (go_simp; done) | (go_simp; with_reducible rfl)
        try simp only [Act.put, List.setIfInBounds_toArray, List.set_cons_zero, List.set_cons_succ]
        refine wpAnyH_done (by kernel_rfl) ?_ _
        refine NoPanic.normal ?_
        go_wp2_with fail
        go_meet
        exact ⟨z19, rfl, rfl, kB, kd9, kd10, kd11, kd13, kd15, kd17, kd19⟩
      refine AllReadyH.cons (by simp only [List.getElem?_toArray, List.getElem?_cons_succ, List.getElem?_cons_zero]; rfl) (fun K hK => ?_) AllReadyH.nil
      go_simp
      have kd19 := DecAt.new wq1 0 0
      have hge_z19 := kB.size
      have hne_z19_d9 := kd9.lt
      have hne_z19_d10 := kd10.lt
      have hne_z19_d11 := kd11.lt
      have hne_z19_d13 := kd13.lt
      have hne_z19_d15 := kd15.lt
      have hne_z19_d17 := kd17.lt
      replace kd9 := kd9.alloc (.cells #[.int .i64 0, .int .i64 0] 25)
      replace kd10 := kd10.alloc (.cells #[.int .i64 0, .int .i64 0] 25)
      replace kd11 := kd11.alloc (.cells #[.int .i64 0, .int .i64 0] 25)
      replace kd13 := kd13.alloc (.cells #[.int .i64 0, .int .i64 0] 25)
      replace kd15 := kd15.alloc (.cells #[.int .i64 0, .int .i64 0] 25)
      replace kd17 := kd17.alloc (.cells #[.int .i64 0, .int .i64 0] 25)
      replace kB := kb_alloc kB (Nat.le_refl _) (.cells #[.int .i64 0, .int .i64 0] 25)
      obtain ⟨z19, hcur⟩ : ∃ uu, uu = wq1.heap.size := ⟨_, rfl⟩
      rw [← hcur] at hge_z19 kd19 hne_z19_d9 hne_z19_d10 hne_z19_d11 hne_z19_d13 hne_z19_d15 hne_z19_d17 ⊢
      clear hcur
      obtain ⟨q7, hcur⟩ : ∃ uu, uu = wq1.alloc (.cells #[.int .i64 0, .int .i64 0] 25) := ⟨_, rfl⟩
      rw [← hcur] at kB kd9 kd10 kd11 kd13 kd15 kd17 kd19 ⊢
      clear hcur
      refine hK.out _ _ ?_ (fun hHeld => ?_)
      · exact ⟨kB, kd9⟩
      clear hK K
      try simp only [Act.put, List.setIfInBounds_toArray, List.set_cons_zero, List.set_cons_succ]
      refine wpAnyH_ready (rs := [3]) (by kernel_rfl) (by simp) ?_
      refine AllReadyH.cons (by simp only [List.getElem?_toArray, List.getElem?_cons_succ, List.getElem?_cons_zero]; rfl) (fun K hK => ?_) AllReadyH.nil
      go_simp
      have kw69 := row2 q7 p i (-p) i
      have hge_bs := kB.size
      have hne_bs_d9 := kd9.lt
      have hne_bs_d10 := kd10.lt
      have hne_bs_d11 := kd11.lt
      have hne_bs_d13 := kd13.lt
      have hne_bs_d15 := kd15.lt
      have hne_bs_d17 := kd17.lt
      have hne_bs_d19 := kd19.lt
      replace kd9 := kd9.alloc (.cells #[.int .i64 p, .int .i64 i, .int .i64 (-p), .int .i64 i] 25)
      replace kd10 := kd10.alloc (.cells #[.int .i64 p, .int .i64 i, .int .i64 (-p), .int .i64 i] 25)
      replace kd11 := kd11.alloc (.cells #[.int .i64 p, .int .i64 i, .int .i64 (-p), .int .i64 i] 25)
      replace kd13 := kd13.alloc (.cells #[.int .i64 p, .int .i64 i, .int .i64 (-p), .int .i64 i] 25)
      replace kd15 := kd15.alloc (.cells #[.int .i64 p, .int .i64 i, .int .i64 (-p), .int .i64 i] 25)
      replace kd17 := kd17.alloc (.cells #[.int .i64 p, .int .i64 i, .int .i64 (-p), .int .i64 i] 25)
      replace kd19 := kd19.alloc (.cells #[.int .i64 p, .int .i64 i, .int .i64 (-p), .int .i64 i] 25)
      replace kB := kb_alloc kB (Nat.le_refl _) (.cells #[.int .i64 p, .int .i64 i, .int .i64 (-p), .int .i64 i] 25)
      obtain ⟨bs, hcur⟩ : ∃ uu, uu = q7.heap.size := ⟨_, rfl⟩
      rw [← hcur] at hge_bs kw69 hne_bs_d9 hne_bs_d10 hne_bs_d11 hne_bs_d13 hne_bs_d15 hne_bs_d17 hne_bs_d19 ⊢
      clear hcur
      obtain ⟨q8, hcur⟩ : ∃ uu, uu = q7.alloc (.cells #[.int .i64 p, .int .i64 i, .int .i64 (-p), .int .i64 i] 25) := ⟨_, rfl⟩
      rw [← hcur] at kB kd9 kd10 kd11 kd13 kd15 kd17 kd19 kw69 ⊢
      clear hcur
      refine hK.out _ _ ?_ (fun hHeld => ?_)
      · exact ⟨kB, kd9⟩
      clear hK K
      try simp only [Act.put, List.setIfInBounds_toArray, List.set_cons_zero, List.set_cons_succ]
      refine wpAnyH_ready (rs := [4]) (by kernel_rfl) (by simp) ?_
      refine AllReadyH.cons (by simp only [List.getElem?_toArray, List.getElem?_cons_succ, List.getElem?_cons_zero]; rfl) (fun K hK => ?_) AllReadyH.nil
      try go_simp
      refine (hA3.out _ _ kw69).mono ?_; rintro e wq9 ⟨rfl, q9⟩
      replace kB := kB.trans (q9.mono kB.size)
      replace kd9 := kd9.below q9
      replace kd10 := kd10.below q9
      replace kd11 := kd11.below q9
      replace kd13 := kd13.below q9
      replace kd15 := kd15.below q9
      replace kd17 := kd17.below q9
      replace kd19 := kd19.below q9
      replace kw69 := kw69.below q9
      clear q9
      try go_wp2_with fail
      refine hK.out _ _ ?_ (fun hHeld => ?_)
      · exact ⟨kB, kd9⟩
      clear hK K
      try simp only [Act.put, List.setIfInBounds_toArray, List.set_cons_zero, List.set_cons_succ]
      refine wpAnyH_take (i := 5) (v := ?_) (by simp only [List.getElem?_toArray, List.getElem?_cons_succ, List.getElem?_cons_zero]; rfl) (by kernel_rfl) (by kernel_rfl) (by kernel_rfl) (fun _ _ _ h => h) (Or.inl ⟨by rfl, ?_⟩) hHeld ?_
      rotate_left
      · intro x hSw; first | (go_simp; done) | (go_simp; with_reducible rfl)
      try simp only [Act.put, List.setIfInBounds_toArray, List.set_cons_zero, List.set_cons_succ]
      refine wpAnyH_take (i := 6) (v := ?_) (by simp only [List.getElem?_toArray, List.getElem?_cons_succ, List.getElem?_cons_zero]; rfl) (by kernel_rfl) (by kernel_rfl) (by kernel_rfl) (fun _ _ _ h => h) (Or.inl ⟨by rfl, ?_⟩) hHeld ?_
      rotate_left
      · intro x hSw; first | (go_simp; done) | (go_simp; with_reducible rfl)
      try simp only [Act.put, List.setIfInBounds_toArray, List.set_cons_zero, List.set_cons_succ]
      refine wpAnyH_take (i := 7) (v := ?_) (by simp only [List.getElem?_toArray, List.getElem?_cons_succ, List.getElem?_cons_zero]; rfl) (by kernel_rfl) (by kernel_rfl) (by kernel_rfl) (fun _ _ _ h => h) (Or.inl ⟨by rfl, ?_⟩) hHeld ?_
      rotate_left
      · intro x hSw; first | (go_simp; done) | (go_simp; with_reducible rfl)
      try simp only [Act.put, List.setIfInBounds_toArray, List.set_cons_zero, List.set_cons_succ]
      refine wpAnyH_ready (rs := [9]) (by kernel_rfl) (by simp) ?_
      refine AllReadyH.cons (by simp only [List.getElem?_toArray, List.getElem?_cons_succ, List.getElem?_cons_zero]; rfl) (fun K hK => ?_) AllReadyH.nil
      have sc0 := kd19.c0; have sc1 := kd19.c1; have sf0 := kd19.f0; have sf1 := kd19.f1
      go_simp
      clear sc0 sc1 sf0 sf1
      replace kB := below_put (g := z19) kB (by omega) (0) (0)
      replace kd9 := kd9.putOther (g := z19) (by omega) (0) (0)
      replace kd10 := kd10.putOther (g := z19) (by omega) (0) (0)
      replace kd11 := kd11.putOther (g := z19) (by omega) (0) (0)
      replace kd13 := kd13.putOther (g := z19) (by omega) (0) (0)
      replace kd15 := kd15.putOther (g := z19) (by omega) (0) (0)
      replace kd17 := kd17.putOther (g := z19) (by omega) (0) (0)
      replace kd19 := kd19.put (0) (0)
      clear kw69
      unfold putDec at kB kd9 kd10 kd11 kd13 kd15 kd17 kd19
      refine hK.out _ _ ?_ (fun hHeld => ?_)
      · exact ⟨kB, kd9⟩
      clear hK K
      try simp only [Act.put, List.setIfInBounds_toArray, List.set_cons_zero, List.set_cons_succ]
      refine wpAnyH_take (i := 10) (v := ?_) (by simp only [List.getElem?_toArray, List.getElem?_cons_succ, List.getElem?_cons_zero]; rfl) (by kernel_rfl) (by kernel_rfl) (by kernel_rfl) (fun _ _ _ h => h) (Or.inl ⟨by rfl, ?_⟩) hHeld ?_
      rotate_left
      · intro x hSw; first | (go_simp; done) | (go_simp; with_reducible rfl)
      try simp only [Act.put, List.setIfInBounds_toArray, List.set_cons_zero, List.set_cons_succ]
      refine wpAnyH_done (by kernel_rfl) ?_ _
      refine NoPanic.normal ?_
      go_wp2_with fail
      go_meet
      exact ⟨z19, rfl, rfl, kB, kd9, kd10, kd11, kd13, kd15, kd17, kd19⟩
    refine AllReadyH.cons (by simp only [List.getElem?_toArray, List.getElem?_cons_succ, List.getElem?_cons_zero]; rfl) (fun K hK => ?_) AllReadyH.nil
    go_simp
    have kd19 := DecAt.new qw 0 0
    have hge_z19 := kB.size
    have hne_z19_d9 := kd9.lt
    have hne_z19_d10 := kd10.lt
    have hne_z19_d11 := kd11.lt
    have hne_z19_d13 := kd13.lt
    have hne_z19_d15 := kd15.lt
    have hne_z19_d17 := kd17.lt
    replace kd9 := kd9.alloc (.cells #[.int .i64 0, .int .i64 0] 25)
    replace kd10 := kd10.alloc (.cells #[.int .i64 0, .int .i64 0] 25)
    replace kd11 := kd11.alloc (.cells #[.int .i64 0, .int .i64 0] 25)
    replace kd13 := kd13.alloc (.cells #[.int .i64 0, .int .i64 0] 25)
    replace kd15 := kd15.alloc (.cells #[.int .i64 0, .int .i64 0] 25)
    replace kd17 := kd17.alloc (.cells #[.int .i64 0, .int .i64 0] 25)
    replace kB := kb_alloc kB (Nat.le_refl _) (.cells #[.int .i64 0, .int .i64 0] 25)
    obtain ⟨z19, hcur⟩ : ∃ uu, uu = qw.heap.size := ⟨_, rfl⟩
    rw [← hcur] at hge_z19 kd19 hne_z19_d9 hne_z19_d10 hne_z19_d11 hne_z19_d13 hne_z19_d15 hne_z19_d17 ⊢
    clear hcur
    obtain ⟨q10, hcur⟩ : ∃ uu, uu = qw.alloc (.cells #[.int .i64 0, .int .i64 0] 25) := ⟨_, rfl⟩
    rw [← hcur] at kB kd9 kd10 kd11 kd13 kd15 kd17 kd19 ⊢
    clear hcur
    refine hK.out _ _ ?_ (fun hHeld => ?_)
    · exact ⟨kB, kd9⟩
    clear hK K
    try simp only [Act.put, List.setIfInBounds_toArray, List.set_cons_zero, List.set_cons_succ]
    refine wpAnyH_ready (rs := [2]) (by kernel_rfl) (by simp) ?_
    refine AllReadyH.cons (by simp only [List.getElem?_toArray, List.getElem?_cons_succ, List.getElem?_cons_zero]; rfl) (fun K hK => ?_) AllReadyH.nil
    try go_simp
    refine (hN1.out _).mono ?_; rintro e wq11 ⟨rfl, q11⟩
    replace kB := kB.trans (q11.mono kB.size)
    replace kd9 := kd9.below q11
    replace kd10 := kd10.below q11
    replace kd11 := kd11.below q11
    replace kd13 := kd13.below q11
    replace kd15 := kd15.below q11
    replace kd17 := kd17.below q11
    replace kd19 := kd19.below q11
    clear q11
    try go_wp2_with fail
    refine hK.out _ _ ?_ (fun hHeld => ?_)
    · exact ⟨kB, kd9⟩
    clear hK K
    try simp only [Act.put, List.setIfInBounds_toArray, List.set_cons_zero, List.set_cons_succ]
    refine wpAnyH_ready (rs := [3]) (by kernel_rfl) (by simp) ?_
    refine AllReadyH.cons (by simp only [List.getElem?_toArray, List.getElem?_cons_succ, List.getElem?_cons_zero]; rfl) (fun K hK => ?_) AllReadyH.nil
    go_simp
    have kw69 := row2 wq11 p i (-p) i
    have hge_bs := kB.size
    have hne_bs_d9 := kd9.lt
    have hne_bs_d10 := kd10.lt
    have hne_bs_d11 := kd11.lt
    have hne_bs_d13 := kd13.lt
    have hne_bs_d15 := kd15.lt
    have hne_bs_d17 := kd17.lt
    have hne_bs_d19 := kd19.lt
    replace kd9 := kd9.alloc (.cells #[.int .i64 p, .int .i64 i, .int .i64 (-p), .int .i64 i] 25)
    replace kd10 := kd10.alloc (.cells #[.int .i64 p, .int .i64 i, .int .i64 (-p), .int .i64 i] 25)
    replace kd11 := kd11.alloc (.cells #[.int .i64 p, .int .i64 i, .int .i64 (-p), .int .i64 i] 25)
    replace kd13 := kd13.alloc (.cells #[.int .i64 p, .int .i64 i, .int .i64 (-p), .int .i64 i] 25)
    replace kd15 := kd15.alloc (.cells #[.int .i64 p, .int .i64 i, .int .i64 (-p), .int .i64 i] 25)
    replace kd17 := kd17.alloc (.cells #[.int .i64 p, .int .i64 i, .int .i64 (-p), .int .i64 i] 25)
    replace kd19 := kd19.alloc (.cells #[.int .i64 p, .int .i64 i, .int .i64 (-p), .int .i64 i] 25)
    replace kB := kb_alloc kB (Nat.le_refl _) (.cells #[.int .i64 p, .int .i64 i, .int .i64 (-p), .int .i64 i] 25)
    obtain ⟨bs, hcur⟩ : ∃ uu, uu = wq11.heap.size := ⟨_, rfl⟩
    rw [← hcur] at hge_bs kw69 hne_bs_d9 hne_bs_d10 hne_bs_d11 hne_bs_d13 hne_bs_d15 hne_bs_d17 hne_bs_d19 ⊢
    clear hcur
    obtain ⟨q12, hcur⟩ : ∃ uu, uu = wq11.alloc (.cells #[.int .i64 p, .int .i64 i, .int .i64 (-p), .int .i64 i] 25) := ⟨_, rfl⟩
    rw [← hcur] at kB kd9 kd10 kd11 kd13 kd15 kd17 kd19 kw69 ⊢
    clear hcur
    refine hK.out _ _ ?_ (fun hHeld => ?_)
    · exact ⟨kB, kd9⟩
    clear hK K
    try simp only [Act.put, List.setIfInBounds_toArray, List.set_cons_zero, List.set_cons_succ]
    refine wpAnyH_ready (rs := [4]) (by kernel_rfl) (by simp) ?_
    refine AllReadyH.cons (by simp only [List.getElem?_toArray, List.getElem?_cons_succ, List.getElem?_cons_zero]; rfl) (fun K hK => ?_) AllReadyH.nil
    try go_simp
    refine (hA3.out _ _ kw69).mono ?_; rintro e wq13 ⟨rfl, q13⟩
    replace kB := kB.trans (q13.mono kB.size)
    replace kd9 := kd9.below q13
    replace kd10 := kd10.below q13
    replace kd11 := kd11.below q13
    replace kd13 := kd13.below q13
    replace kd15 := kd15.below q13
    replace kd17 := kd17.below q13
    replace kd19 := kd19.below q13
    replace kw69 := kw69.below q13
    clear q13
    try go_wp2_with fail
    refine hK.out _ _ ?_ (fun hHeld => ?_)
    · exact ⟨kB, kd9⟩
    clear hK K
    try simp only [Act.put, List.setIfInBounds_toArray, List.set_cons_zero, List.set_cons_succ]
    refine wpAnyH_take (i := 5) (v := ?_) (by simp only [List.getElem?_toArray, List.getElem?_cons_succ, List.getElem?_cons_zero]; rfl) (by kernel_rfl) (by kernel_rfl) (by kernel_rfl) (fun _ _ _ h => h) (Or.inl ⟨by rfl, ?_⟩) hHeld ?_
    rotate_left
    · intro x hSw; first | (go_simp; done) | (go_simp; with_reducible rfl)
    try simp only [Act.put, List.setIfInBounds_toArray, List.set_cons_zero, List.set_cons_succ]
    refine wpAnyH_take (i := 6) (v := ?_) (by simp only [List.getElem?_toArray, List.getElem?_cons_succ, List.getElem?_cons_zero]; rfl) (by kernel_rfl) (by kernel_rfl) (by kernel_rfl) (fun _ _ _ h => h) (Or.inl ⟨by rfl, ?_⟩) hHeld ?_
    rotate_left
    · intro x hSw; first | (go_simp; done) | (go_simp; with_reducible rfl)
    try simp only [Act.put, List.setIfInBounds_toArray, List.set_cons_zero, List.set_cons_succ]
    refine wpAnyH_take (i := 7) (v := ?_) (by simp only [List.getElem?_toArray, List.getElem?_cons_succ, List.getElem?_cons_zero]; rfl) (by kernel_rfl) (by kernel_rfl) (by kernel_rfl) (fun _ _ _ h => h) (Or.inl ⟨by rfl, ?_⟩) hHeld ?_
    rotate_left
    · intro x hSw; first | (go_simp; done) | (go_simp; with_reducible rfl)
    try simp only [Act.put, List.setIfInBounds_toArray, List.set_cons_zero, List.set_cons_succ]
    refine wpAnyH_ready (rs := [9]) (by kernel_rfl) (by simp) ?_
    refine AllReadyH.cons (by simp only [List.getElem?_toArray, List.getElem?_cons_succ, List.getElem?_cons_zero]; rfl) (fun K hK => ?_) AllReadyH.nil
    have sc0 := kd19.c0; have sc1 := kd19.c1; have sf0 := kd19.f0; have sf1 := kd19.f1
    go_simp
    clear sc0 sc1 sf0 sf1
    replace kB := below_put (g := z19) kB (by omega) (0) (0)
    replace kd9 := kd9.putOther (g := z19) (by omega) (0) (0)
    replace kd10 := kd10.putOther (g := z19) (by omega) (0) (0)
    replace kd11 := kd11.putOther (g := z19) (by omega) (0) (0)
    replace kd13 := kd13.putOther (g := z19) (by omega) (0) (0)
    replace kd15 := kd15.putOther (g := z19) (by omega) (0) (0)
    replace kd17 := kd17.putOther (g := z19) (by omega) (0) (0)
    replace kd19 := kd19.put (0) (0)
    clear kw69
    unfold putDec at kB kd9 kd10 kd11 kd13 kd15 kd17 kd19
    refine hK.out _ _ ?_ (fun hHeld => ?_)
    · exact ⟨kB, kd9⟩
    clear hK K
    try simp only [Act.put, List.setIfInBounds_toArray, List.set_cons_zero, List.set_cons_succ]
    refine wpAnyH_take (i := 10) (v := ?_) (by simp only [List.getElem?_toArray, List.getElem?_cons_succ, List.getElem?_cons_zero]; rfl) (by kernel_rfl) (by kernel_rfl) (by kernel_rfl) (fun _ _ _ h => h) (Or.inl ⟨by rfl, ?_⟩) hHeld ?_
    rotate_left
    · intro x hSw; first | (go_simp; done) | (go_simp; with_reducible rfl)
    try simp only [Act.put, List.setIfInBounds_toArray, List.set_cons_zero, List.set_cons_succ]
    refine wpAnyH_done (by kernel_rfl) ?_ _
    refine NoPanic.normal ?_
    go_wp2_with fail
    go_meet
    exact ⟨z19, rfl, rfl, kB, kd9, kd10, kd11, kd13, kd15, kd17, kd19⟩
  case rest =>
    clear kB kd9 kd10 kd11 kd13 kd15 kd17
    obtain ⟨z19, rfl, rfl, kB, kd9, kd10, kd11, kd13, kd15, kd17, kd19⟩ := hcut
    have c0d9 := kd9.c0; have c1d9 := kd9.c1
    go_wp2_with fail
    clear c0d9 c1d9
    have krow := row2 wc p i 0 0
    replace kB := kb_alloc kB (Nat.le_refl _) (.cells #[.int .i64 p, .int .i64 i, .int .i64 0, .int .i64 0] 25)
    replace kd9 := kd9.alloc (.cells #[.int .i64 p, .int .i64 i, .int .i64 0, .int .i64 0] 25)
    replace kd10 := kd10.alloc (.cells #[.int .i64 p, .int .i64 i, .int .i64 0, .int .i64 0] 25)
    replace kd11 := kd11.alloc (.cells #[.int .i64 p, .int .i64 i, .int .i64 0, .int .i64 0] 25)
    replace kd13 := kd13.alloc (.cells #[.int .i64 p, .int .i64 i, .int .i64 0, .int .i64 0] 25)
    replace kd15 := kd15.alloc (.cells #[.int .i64 p, .int .i64 i, .int .i64 0, .int .i64 0] 25)
    replace kd17 := kd17.alloc (.cells #[.int .i64 p, .int .i64 i, .int .i64 0, .int .i64 0] 25)
    replace kd19 := kd19.alloc (.cells #[.int .i64 p, .int .i64 i, .int .i64 0, .int .i64 0] 25)
    refine (hA4.out _ _ krow).mono ?_; rintro e w13 ⟨rfl, b13⟩
    replace kB := kB.trans (b13.mono kB.size)
    replace kd9 := kd9.below b13
    replace kd10 := kd10.below b13
    replace kd11 := kd11.below b13
    replace kd13 := kd13.below b13
    replace kd15 := kd15.below b13
    replace kd17 := kd17.below b13
    replace kd19 := kd19.below b13
    clear b13
    clear krow
    replace kB := kb_alloc kB (Nat.le_refl _) (.cells #[.int .i64 p, .int .i64 i] 25)
    replace kd9 := kd9.alloc (.cells #[.int .i64 p, .int .i64 i] 25)
    replace kd10 := kd10.alloc (.cells #[.int .i64 p, .int .i64 i] 25)
    replace kd11 := kd11.alloc (.cells #[.int .i64 p, .int .i64 i] 25)
    replace kd13 := kd13.alloc (.cells #[.int .i64 p, .int .i64 i] 25)
    replace kd15 := kd15.alloc (.cells #[.int .i64 p, .int .i64 i] 25)
    replace kd17 := kd17.alloc (.cells #[.int .i64 p, .int .i64 i] 25)
    replace kd19 := kd19.alloc (.cells #[.int .i64 p, .int .i64 i] 25)
    have kd21 := DecAt.new w13 p i
    go_upto_region 10 with (fail)
    obtain ⟨W14, hcur⟩ : ∃ uu, uu = w13.alloc (.cells #[.int .i64 p, .int .i64 i] 25) := ⟨_, rfl⟩
    rw [← hcur] at kB kd9 kd10 kd11 kd13 kd15 kd17 kd19 kd21 ⊢
    clear hcur
    obtain ⟨z21, hcur⟩ : ∃ uu, uu = w13.heap.size := ⟨_, rfl⟩
    rw [← hcur] at kd21 ⊢
    clear hcur
    go_cut [23, 24] (fun s1 s2 wx => ∃ z23, s1 = .pointer (some ⟨z23, 0, none⟩) ∧ s2 = .bool true ∧ Below w.heap.size w wx ∧ DecAt wx z9 p i ∧ DecAt wx z10 q j ∧ DecAt wx z11 x1 x2 ∧ DecAt wx z13 x1 x2 ∧ DecAt wx z15 c1 c2 ∧ DecAt wx z17 c1 c2 ∧ DecAt wx z19 0 0 ∧ DecAt wx z21 p i ∧ DecAt wx z23 p i)
    case first =>
      refine wp_region_noPanic ?_
      refine wp_region_held_drew (S := fun X => Below w.heap.size w X ∧ DecAt X z9 p i) (by kernel_rfl) ?_ (fun hHeld => ?_)
      · exact ⟨Below.drew kB, DecAt.drew kd9⟩
      replace kB := Below.drew kB
      replace kd9 := DecAt.drew kd9
      replace kd10 := DecAt.drew kd10
      replace kd11 := DecAt.drew kd11
      replace kd13 := DecAt.drew kd13
      replace kd15 := DecAt.drew kd15
      replace kd17 := DecAt.drew kd17
      replace kd19 := DecAt.drew kd19
      replace kd21 := DecAt.drew kd21
      obtain ⟨qw, hcur⟩ : ∃ uu, uu = W14.drew := ⟨_, rfl⟩
      rw [← hcur] at hHeld kB kd9 kd10 kd11 kd13 kd15 kd17 kd19 kd21 ⊢
      clear hcur
      refine wpAnyH_take (i := 0) (v := ?_) (by simp only [List.getElem?_toArray, List.getElem?_cons_succ, List.getElem?_cons_zero]; rfl) (by kernel_rfl) (by kernel_rfl) (by kernel_rfl) (fun _ _ _ h => h) (Or.inl ⟨by rfl, ?_⟩) hHeld ?_
      rotate_left
      · intro x hSw; (try dsimp only at hSw); obtain ⟨_, hd9⟩ := hSw; have c0d9 := hd9.c0; have c1d9 := hd9.c1; first | (go_simp; done) | (go_simp; with_reducible rfl)
      try simp only [Act.put, List.setIfInBounds_toArray, List.set_cons_zero, List.set_cons_succ]
      refine wpAnyH_ready (rs := [1, 6]) (by kernel_rfl) (by simp) ?_
      refine AllReadyH.cons (by simp only [List.getElem?_toArray, List.getElem?_cons_succ, List.getElem?_cons_zero]; rfl) (fun K hK => ?_) ?_
      · try go_simp
        refine (hD1.out _).mono ?_; rintro e wq1 ⟨rfl, q1⟩
        replace kB := kB.trans (q1.mono kB.size)
        replace kd9 := kd9.below q1
        replace kd10 := kd10.below q1
        replace kd11 := kd11.below q1
        replace kd13 := kd13.below q1
        replace kd15 := kd15.below q1
        replace kd17 := kd17.below q1
        replace kd19 := kd19.below q1
        replace kd21 := kd21.below q1
        clear q1
        try go_wp2_with fail
        refine hK.out _ _ ?_ (fun hHeld => ?_)
        · exact ⟨kB, kd9⟩
        clear hK K
        try simp only [Act.put, List.setIfInBounds_toArray, List.set_cons_zero, List.set_cons_succ]
        refine wpAnyH_ready (rs := [2, 6]) (by kernel_rfl) (by simp) ?_
        refine AllReadyH.cons (by simp only [List.getElem?_toArray, List.getElem?_cons_succ, List.getElem?_cons_zero]; rfl) (fun K hK => ?_) ?_
        · try go_simp
          refine (hT3.out _).mono ?_; rintro e wq2 ⟨rfl, q2⟩
          replace kB := kB.trans (q2.mono kB.size)
          replace kd9 := kd9.below q2
          replace kd10 := kd10.below q2
          replace kd11 := kd11.below q2
          replace kd13 := kd13.below q2
          replace kd15 := kd15.below q2
          replace kd17 := kd17.below q2
          replace kd19 := kd19.below q2
          replace kd21 := kd21.below q2
          clear q2
          try go_wp2_with fail
          refine hK.out _ _ ?_ (fun hHeld => ?_)
          · exact ⟨kB, kd9⟩
          clear hK K
          try simp only [Act.put, List.setIfInBounds_toArray, List.set_cons_zero, List.set_cons_succ]
          refine wpAnyH_take (i := 3) (v := ?_) (by simp only [List.getElem?_toArray, List.getElem?_cons_succ, List.getElem?_cons_zero]; rfl) (by kernel_rfl) (by kernel_rfl) (by kernel_rfl) (fun _ _ _ h => h) (Or.inl ⟨by rfl, ?_⟩) hHeld ?_
          rotate_left
          · intro x hSw; first | (go_simp; done) | (go_simp; with_reducible rfl)
          try simp only [Act.put, List.setIfInBounds_toArray, List.set_cons_zero, List.set_cons_succ]
          refine wpAnyH_take (i := 4) (v := ?_) (by simp only [List.getElem?_toArray, List.getElem?_cons_succ, List.getElem?_cons_zero]; rfl) (by kernel_rfl) (by kernel_rfl) (by kernel_rfl) (fun _ _ _ h => h) (Or.inl ⟨by rfl, ?_⟩) hHeld ?_
          rotate_left
          · intro x hSw; first | (go_simp; done) | (go_simp; with_reducible rfl)
          try simp only [Act.put, List.setIfInBounds_toArray, List.set_cons_zero, List.set_cons_succ]
          refine wpAnyH_take (i := 5) (v := ?_) (by simp only [List.getElem?_toArray, List.getElem?_cons_succ, List.getElem?_cons_zero]; rfl) (by kernel_rfl) (by kernel_rfl) (by kernel_rfl) (fun _ _ _ h => h) (Or.inl ⟨by rfl, ?_⟩) hHeld ?_
          rotate_left
          · intro x hSw; first | (go_simp; done) | (go_simp; with_reducible rfl)
          try simp only [Act.put, List.setIfInBounds_toArray, List.set_cons_zero, List.set_cons_succ]
          refine wpAnyH_ready (rs := [6]) (by kernel_rfl) (by simp) ?_
          refine AllReadyH.cons (by simp only [List.getElem?_toArray, List.getElem?_cons_succ, List.getElem?_cons_zero]; rfl) (fun K hK => ?_) AllReadyH.nil
          go_simp
          have kd23 := DecAt.new wq2 0 0
          have hge_z23 := kB.size
          have hne_z23_d9 := kd9.lt
          have hne_z23_d10 := kd10.lt
          have hne_z23_d11 := kd11.lt
          have hne_z23_d13 := kd13.lt
          have hne_z23_d15 := kd15.lt
          have hne_z23_d17 := kd17.lt
          have hne_z23_d19 := kd19.lt
          have hne_z23_d21 := kd21.lt
          replace kd9 := kd9.alloc (.cells #[.int .i64 0, .int .i64 0] 25)
          replace kd10 := kd10.alloc (.cells #[.int .i64 0, .int .i64 0] 25)
          replace kd11 := kd11.alloc (.cells #[.int .i64 0, .int .i64 0] 25)
          replace kd13 := kd13.alloc (.cells #[.int .i64 0, .int .i64 0] 25)
          replace kd15 := kd15.alloc (.cells #[.int .i64 0, .int .i64 0] 25)
          replace kd17 := kd17.alloc (.cells #[.int .i64 0, .int .i64 0] 25)
          replace kd19 := kd19.alloc (.cells #[.int .i64 0, .int .i64 0] 25)
          replace kd21 := kd21.alloc (.cells #[.int .i64 0, .int .i64 0] 25)
          replace kB := kb_alloc kB (Nat.le_refl _) (.cells #[.int .i64 0, .int .i64 0] 25)
          obtain ⟨z23, hcur⟩ : ∃ uu, uu = wq2.heap.size := ⟨_, rfl⟩
          rw [← hcur] at hge_z23 kd23 hne_z23_d9 hne_z23_d10 hne_z23_d11 hne_z23_d13 hne_z23_d15 hne_z23_d17 hne_z23_d19 hne_z23_d21 ⊢
          clear hcur
          obtain ⟨q3, hcur⟩ : ∃ uu, uu = wq2.alloc (.cells #[.int .i64 0, .int .i64 0] 25) := ⟨_, rfl⟩
          rw [← hcur] at kB kd9 kd10 kd11 kd13 kd15 kd17 kd19 kd21 kd23 ⊢
          clear hcur
          refine hK.out _ _ ?_ (fun hHeld => ?_)
          · exact ⟨kB, kd9⟩
          clear hK K
          try simp only [Act.put, List.setIfInBounds_toArray, List.set_cons_zero, List.set_cons_succ]
          refine wpAnyH_ready (rs := [7]) (by kernel_rfl) (by simp) ?_
          refine AllReadyH.cons (by simp only [List.getElem?_toArray, List.getElem?_cons_succ, List.getElem?_cons_zero]; rfl) (fun K hK => ?_) AllReadyH.nil
          have sc0 := kd23.c0; have sc1 := kd23.c1; have sf0 := kd23.f0; have sf1 := kd23.f1
          go_simp
          clear sc0 sc1 sf0 sf1
          replace kB := below_put (g := z23) kB (by omega) (p) (i)
          replace kd9 := kd9.putOther (g := z23) (by omega) (p) (i)
          replace kd10 := kd10.putOther (g := z23) (by omega) (p) (i)
          replace kd11 := kd11.putOther (g := z23) (by omega) (p) (i)
          replace kd13 := kd13.putOther (g := z23) (by omega) (p) (i)
          replace kd15 := kd15.putOther (g := z23) (by omega) (p) (i)
          replace kd17 := kd17.putOther (g := z23) (by omega) (p) (i)
          replace kd19 := kd19.putOther (g := z23) (by omega) (p) (i)
          replace kd21 := kd21.putOther (g := z23) (by omega) (p) (i)
          replace kd23 := kd23.put (p) (i)
          unfold putDec at kB kd9 kd10 kd11 kd13 kd15 kd17 kd19 kd21 kd23
          refine hK.out _ _ ?_ (fun hHeld => ?_)
          · exact ⟨kB, kd9⟩
          clear hK K
          try simp only [Act.put, List.setIfInBounds_toArray, List.set_cons_zero, List.set_cons_succ]
          refine wpAnyH_take (i := 8) (v := ?_) (by simp only [List.getElem?_toArray, List.getElem?_cons_succ, List.getElem?_cons_zero]; rfl) (by kernel_rfl) (by kernel_rfl) (by kernel_rfl) (fun _ _ _ h => h) (Or.inl ⟨by rfl, ?_⟩) hHeld ?_
          rotate_left
          · intro x hSw; first | (go_simp; done) | (go_simp; with_reducible rfl)
          try simp only [Act.put, List.setIfInBounds_toArray, List.set_cons_zero, List.set_cons_succ]
          refine wpAnyH_done (by kernel_rfl) ?_ _
          refine NoPanic.normal ?_
          go_wp2_with fail
          go_meet
          exact ⟨z23, rfl, rfl, kB, kd9, kd10, kd11, kd13, kd15, kd17, kd19, kd21, kd23⟩
        refine AllReadyH.cons (by simp only [List.getElem?_toArray, List.getElem?_cons_succ, List.getElem?_cons_zero]; rfl) (fun K hK => ?_) AllReadyH.nil
        go_simp
        have kd23 := DecAt.new wq1 0 0
        have hge_z23 := kB.size
        have hne_z23_d9 := kd9.lt
        have hne_z23_d10 := kd10.lt
        have hne_z23_d11 := kd11.lt
        have hne_z23_d13 := kd13.lt
        have hne_z23_d15 := kd15.lt
        have hne_z23_d17 := kd17.lt
        have hne_z23_d19 := kd19.lt
        have hne_z23_d21 := kd21.lt
        replace kd9 := kd9.alloc (.cells #[.int .i64 0, .int .i64 0] 25)
        replace kd10 := kd10.alloc (.cells #[.int .i64 0, .int .i64 0] 25)
        replace kd11 := kd11.alloc (.cells #[.int .i64 0, .int .i64 0] 25)
        replace kd13 := kd13.alloc (.cells #[.int .i64 0, .int .i64 0] 25)
        replace kd15 := kd15.alloc (.cells #[.int .i64 0, .int .i64 0] 25)
        replace kd17 := kd17.alloc (.cells #[.int .i64 0, .int .i64 0] 25)
        replace kd19 := kd19.alloc (.cells #[.int .i64 0, .int .i64 0] 25)
        replace kd21 := kd21.alloc (.cells #[.int .i64 0, .int .i64 0] 25)
        replace kB := kb_alloc kB (Nat.le_refl _) (.cells #[.int .i64 0, .int .i64 0] 25)
        obtain ⟨z23, hcur⟩ : ∃ uu, uu = wq1.heap.size := ⟨_, rfl⟩
        rw [← hcur] at hge_z23 kd23 hne_z23_d9 hne_z23_d10 hne_z23_d11 hne_z23_d13 hne_z23_d15 hne_z23_d17 hne_z23_d19 hne_z23_d21 ⊢
        clear hcur
        obtain ⟨q4, hcur⟩ : ∃ uu, uu = wq1.alloc (.cells #[.int .i64 0, .int .i64 0] 25) := ⟨_, rfl⟩
        rw [← hcur] at kB kd9 kd10 kd11 kd13 kd15 kd17 kd19 kd21 kd23 ⊢
        clear hcur
        refine hK.out _ _ ?_ (fun hHeld => ?_)
        · exact ⟨kB, kd9⟩
        clear hK K
        try simp only [Act.put, List.setIfInBounds_toArray, List.set_cons_zero, List.set_cons_succ]
        refine wpAnyH_ready (rs := [2]) (by kernel_rfl) (by simp) ?_
        refine AllReadyH.cons (by simp only [List.getElem?_toArray, List.getElem?_cons_succ, List.getElem?_cons_zero]; rfl) (fun K hK => ?_) AllReadyH.nil
        try go_simp
        refine (hT3.out _).mono ?_; rintro e wq5 ⟨rfl, q5⟩
        replace kB := kB.trans (q5.mono kB.size)
        replace kd9 := kd9.below q5
        replace kd10 := kd10.below q5
        replace kd11 := kd11.below q5
        replace kd13 := kd13.below q5
        replace kd15 := kd15.below q5
        replace kd17 := kd17.below q5
        replace kd19 := kd19.below q5
        replace kd21 := kd21.below q5
        replace kd23 := kd23.below q5
        clear q5
        try go_wp2_with fail
        refine hK.out _ _ ?_ (fun hHeld => ?_)
        · exact ⟨kB, kd9⟩
        clear hK K
        try simp only [Act.put, List.setIfInBounds_toArray, List.set_cons_zero, List.set_cons_succ]
        refine wpAnyH_take (i := 3) (v := ?_) (by simp only [List.getElem?_toArray, List.getElem?_cons_succ, List.getElem?_cons_zero]; rfl) (by kernel_rfl) (by kernel_rfl) (by kernel_rfl) (fun _ _ _ h => h) (Or.inl ⟨by rfl, ?_⟩) hHeld ?_
        rotate_left
        · intro x hSw; first | (go_simp; done) | (go_simp; with_reducible rfl)
        try simp only [Act.put, List.setIfInBounds_toArray, List.set_cons_zero, List.set_cons_succ]
        refine wpAnyH_take (i := 4) (v := ?_) (by simp only [List.getElem?_toArray, List.getElem?_cons_succ, List.getElem?_cons_zero]; rfl) (by kernel_rfl) (by kernel_rfl) (by kernel_rfl) (fun _ _ _ h => h) (Or.inl ⟨by rfl, ?_⟩) hHeld ?_
        rotate_left
        · intro x hSw; first | (go_simp; done) | (go_simp; with_reducible rfl)
        try simp only [Act.put, List.setIfInBounds_toArray, List.set_cons_zero, List.set_cons_succ]
        refine wpAnyH_take (i := 5) (v := ?_) (by simp only [List.getElem?_toArray, List.getElem?_cons_succ, List.getElem?_cons_zero]; rfl) (by kernel_rfl) (by kernel_rfl) (by kernel_rfl) (fun _ _ _ h => h) (Or.inl ⟨by rfl, ?_⟩) hHeld ?_
        rotate_left
        · intro x hSw; first | (go_simp; done) | (go_simp; with_reducible rfl)
        try simp only [Act.put, List.setIfInBounds_toArray, List.set_cons_zero, List.set_cons_succ]
        refine wpAnyH_ready (rs := [7]) (by kernel_rfl) (by simp) ?_
        refine AllReadyH.cons (by simp only [List.getElem?_toArray, List.getElem?_cons_succ, List.getElem?_cons_zero]; rfl) (fun K hK => ?_) AllReadyH.nil
        have sc0 := kd23.c0; have sc1 := kd23.c1; have sf0 := kd23.f0; have sf1 := kd23.f1
        go_simp
        clear sc0 sc1 sf0 sf1
        replace kB := below_put (g := z23) kB (by omega) (p) (i)
        replace kd9 := kd9.putOther (g := z23) (by omega) (p) (i)
        replace kd10 := kd10.putOther (g := z23) (by omega) (p) (i)
        replace kd11 := kd11.putOther (g := z23) (by omega) (p) (i)
        replace kd13 := kd13.putOther (g := z23) (by omega) (p) (i)
        replace kd15 := kd15.putOther (g := z23) (by omega) (p) (i)
        replace kd17 := kd17.putOther (g := z23) (by omega) (p) (i)
        replace kd19 := kd19.putOther (g := z23) (by omega) (p) (i)
        replace kd21 := kd21.putOther (g := z23) (by omega) (p) (i)
        replace kd23 := kd23.put (p) (i)
        unfold putDec at kB kd9 kd10 kd11 kd13 kd15 kd17 kd19 kd21 kd23
        refine hK.out _ _ ?_ (fun hHeld => ?_)
        · exact ⟨kB, kd9⟩
        clear hK K
        try simp only [Act.put, List.setIfInBounds_toArray, List.set_cons_zero, List.set_cons_succ]
        refine wpAnyH_take (i := 8) (v := ?_) (by simp only [List.getElem?_toArray, List.getElem?_cons_succ, List.getElem?_cons_zero]; rfl) (by kernel_rfl) (by kernel_rfl) (by kernel_rfl) (fun _ _ _ h => h) (Or.inl ⟨by rfl, ?_⟩) hHeld ?_
        rotate_left
        · intro x hSw; first | (go_simp; done) | (go_simp; with_reducible rfl)
        try simp only [Act.put, List.setIfInBounds_toArray, List.set_cons_zero, List.set_cons_succ]
        refine wpAnyH_done (by kernel_rfl) ?_ _
        refine NoPanic.normal ?_
        go_wp2_with fail
        go_meet
        exact ⟨z23, rfl, rfl, kB, kd9, kd10, kd11, kd13, kd15, kd17, kd19, kd21, kd23⟩
      refine AllReadyH.cons (by simp only [List.getElem?_toArray, List.getElem?_cons_succ, List.getElem?_cons_zero]; rfl) (fun K hK => ?_) AllReadyH.nil
      go_simp
      have kd23 := DecAt.new qw 0 0
      have hge_z23 := kB.size
      have hne_z23_d9 := kd9.lt
      have hne_z23_d10 := kd10.lt
      have hne_z23_d11 := kd11.lt
      have hne_z23_d13 := kd13.lt
      have hne_z23_d15 := kd15.lt
      have hne_z23_d17 := kd17.lt
      have hne_z23_d19 := kd19.lt
      have hne_z23_d21 := kd21.lt
      replace kd9 := kd9.alloc (.cells #[.int .i64 0, .int .i64 0] 25)
      replace kd10 := kd10.alloc (.cells #[.int .i64 0, .int .i64 0] 25)
      replace kd11 := kd11.alloc (.cells #[.int .i64 0, .int .i64 0] 25)
      replace kd13 := kd13.alloc (.cells #[.int .i64 0, .int .i64 0] 25)
      replace kd15 := kd15.alloc (.cells #[.int .i64 0, .int .i64 0] 25)
      replace kd17 := kd17.alloc (.cells #[.int .i64 0, .int .i64 0] 25)
      replace kd19 := kd19.alloc (.cells #[.int .i64 0, .int .i64 0] 25)
      replace kd21 := kd21.alloc (.cells #[.int .i64 0, .int .i64 0] 25)
      replace kB := kb_alloc kB (Nat.le_refl _) (.cells #[.int .i64 0, .int .i64 0] 25)
      obtain ⟨z23, hcur⟩ : ∃ uu, uu = qw.heap.size := ⟨_, rfl⟩
      rw [← hcur] at hge_z23 kd23 hne_z23_d9 hne_z23_d10 hne_z23_d11 hne_z23_d13 hne_z23_d15 hne_z23_d17 hne_z23_d19 hne_z23_d21 ⊢
      clear hcur
      obtain ⟨q6, hcur⟩ : ∃ uu, uu = qw.alloc (.cells #[.int .i64 0, .int .i64 0] 25) := ⟨_, rfl⟩
      rw [← hcur] at kB kd9 kd10 kd11 kd13 kd15 kd17 kd19 kd21 kd23 ⊢
      clear hcur
      refine hK.out _ _ ?_ (fun hHeld => ?_)
      · exact ⟨kB, kd9⟩
      clear hK K
      try simp only [Act.put, List.setIfInBounds_toArray, List.set_cons_zero, List.set_cons_succ]
      refine wpAnyH_ready (rs := [1]) (by kernel_rfl) (by simp) ?_
      refine AllReadyH.cons (by simp only [List.getElem?_toArray, List.getElem?_cons_succ, List.getElem?_cons_zero]; rfl) (fun K hK => ?_) AllReadyH.nil
      try go_simp
      refine (hD1.out _).mono ?_; rintro e wq7 ⟨rfl, q7⟩
      replace kB := kB.trans (q7.mono kB.size)
      replace kd9 := kd9.below q7
      replace kd10 := kd10.below q7
      replace kd11 := kd11.below q7
      replace kd13 := kd13.below q7
      replace kd15 := kd15.below q7
      replace kd17 := kd17.below q7
      replace kd19 := kd19.below q7
      replace kd21 := kd21.below q7
      replace kd23 := kd23.below q7
      clear q7
      try go_wp2_with fail
      refine hK.out _ _ ?_ (fun hHeld => ?_)
      · exact ⟨kB, kd9⟩
      clear hK K
      try simp only [Act.put, List.setIfInBounds_toArray, List.set_cons_zero, List.set_cons_succ]
      refine wpAnyH_ready (rs := [2]) (by kernel_rfl) (by simp) ?_
      refine AllReadyH.cons (by simp only [List.getElem?_toArray, List.getElem?_cons_succ, List.getElem?_cons_zero]; rfl) (fun K hK => ?_) AllReadyH.nil
      try go_simp
      refine (hT3.out _).mono ?_; rintro e wq8 ⟨rfl, q8⟩
      replace kB := kB.trans (q8.mono kB.size)
      replace kd9 := kd9.below q8
      replace kd10 := kd10.below q8
      replace kd11 := kd11.below q8
      replace kd13 := kd13.below q8
      replace kd15 := kd15.below q8
      replace kd17 := kd17.below q8
      replace kd19 := kd19.below q8
      replace kd21 := kd21.below q8
      replace kd23 := kd23.below q8
      clear q8
      try go_wp2_with fail
      refine hK.out _ _ ?_ (fun hHeld => ?_)
      · exact ⟨kB, kd9⟩
      clear hK K
      try simp only [Act.put, List.setIfInBounds_toArray, List.set_cons_zero, List.set_cons_succ]
      refine wpAnyH_take (i := 3) (v := ?_) (by simp only [List.getElem?_toArray, List.getElem?_cons_succ, List.getElem?_cons_zero]; rfl) (by kernel_rfl) (by kernel_rfl) (by kernel_rfl) (fun _ _ _ h => h) (Or.inl ⟨by rfl, ?_⟩) hHeld ?_
      rotate_left
      · intro x hSw; first | (go_simp; done) | (go_simp; with_reducible rfl)
      try simp only [Act.put, List.setIfInBounds_toArray, List.set_cons_zero, List.set_cons_succ]
      refine wpAnyH_take (i := 4) (v := ?_) (by simp only [List.getElem?_toArray, List.getElem?_cons_succ, List.getElem?_cons_zero]; rfl) (by kernel_rfl) (by kernel_rfl) (by kernel_rfl) (fun _ _ _ h => h) (Or.inl ⟨by rfl, ?_⟩) hHeld ?_
      rotate_left
      · intro x hSw; first | (go_simp; done) | (go_simp; with_reducible rfl)
      try simp only [Act.put, List.setIfInBounds_toArray, List.set_cons_zero, List.set_cons_succ]
      refine wpAnyH_take (i := 5) (v := ?_) (by simp only [List.getElem?_toArray, List.getElem?_cons_succ, List.getElem?_cons_zero]; rfl) (by kernel_rfl) (by kernel_rfl) (by kernel_rfl) (fun _ _ _ h => h) (Or.inl ⟨by rfl, ?_⟩) hHeld ?_
      rotate_left
      · intro x hSw; first | (go_simp; done) | (go_simp; with_reducible rfl)
      try simp only [Act.put, List.setIfInBounds_toArray, List.set_cons_zero, List.set_cons_succ]
      refine wpAnyH_ready (rs := [7]) (by kernel_rfl) (by simp) ?_
      refine AllReadyH.cons (by simp only [List.getElem?_toArray, List.getElem?_cons_succ, List.getElem?_cons_zero]; rfl) (fun K hK => ?_) AllReadyH.nil
      have sc0 := kd23.c0; have sc1 := kd23.c1; have sf0 := kd23.f0; have sf1 := kd23.f1
      go_simp
      clear sc0 sc1 sf0 sf1
      replace kB := below_put (g := z23) kB (by omega) (p) (i)
      replace kd9 := kd9.putOther (g := z23) (by omega) (p) (i)
      replace kd10 := kd10.putOther (g := z23) (by omega) (p) (i)
      replace kd11 := kd11.putOther (g := z23) (by omega) (p) (i)
      replace kd13 := kd13.putOther (g := z23) (by omega) (p) (i)
      replace kd15 := kd15.putOther (g := z23) (by omega) (p) (i)
      replace kd17 := kd17.putOther (g := z23) (by omega) (p) (i)
      replace kd19 := kd19.putOther (g := z23) (by omega) (p) (i)
      replace kd21 := kd21.putOther (g := z23) (by omega) (p) (i)
      replace kd23 := kd23.put (p) (i)
      unfold putDec at kB kd9 kd10 kd11 kd13 kd15 kd17 kd19 kd21 kd23
      refine hK.out _ _ ?_ (fun hHeld => ?_)
      · exact ⟨kB, kd9⟩
      clear hK K
      try simp only [Act.put, List.setIfInBounds_toArray, List.set_cons_zero, List.set_cons_succ]
      refine wpAnyH_take (i := 8) (v := ?_) (by simp only [List.getElem?_toArray, List.getElem?_cons_succ, List.getElem?_cons_zero]; rfl) (by kernel_rfl) (by kernel_rfl) (by kernel_rfl) (fun _ _ _ h => h) (Or.inl ⟨by rfl, ?_⟩) hHeld ?_
      rotate_left
      · intro x hSw; first | (go_simp; done) | (go_simp; with_reducible rfl)
      try simp only [Act.put, List.setIfInBounds_toArray, List.set_cons_zero, List.set_cons_succ]
      refine wpAnyH_done (by kernel_rfl) ?_ _
      refine NoPanic.normal ?_
      go_wp2_with fail
      go_meet
      exact ⟨z23, rfl, rfl, kB, kd9, kd10, kd11, kd13, kd15, kd17, kd19, kd21, kd23⟩
    case rest =>
      clear kB kd9 kd10 kd11 kd13 kd15 kd17 kd19 kd21
      obtain ⟨z23, rfl, rfl, kB, kd9, kd10, kd11, kd13, kd15, kd17, kd19, kd21, kd23⟩ := hcut
      have c0d9 := kd9.c0; have c1d9 := kd9.c1
      go_wp2_with fail
      clear c0d9 c1d9
      refine (hT4.out _).mono ?_; rintro e w15 ⟨rfl, b15⟩
      replace kB := kB.trans (b15.mono kB.size)
      replace kd9 := kd9.below b15
      replace kd10 := kd10.below b15
      replace kd11 := kd11.below b15
      replace kd13 := kd13.below b15
      replace kd15 := kd15.below b15
      replace kd17 := kd17.below b15
      replace kd19 := kd19.below b15
      replace kd21 := kd21.below b15
      replace kd23 := kd23.below b15
      clear b15
      replace kB := kb_alloc kB (Nat.le_refl _) (.cells #[.int .i64 0, .int .i64 0] 25)
      replace kd9 := kd9.alloc (.cells #[.int .i64 0, .int .i64 0] 25)
      replace kd10 := kd10.alloc (.cells #[.int .i64 0, .int .i64 0] 25)
      replace kd11 := kd11.alloc (.cells #[.int .i64 0, .int .i64 0] 25)
      replace kd13 := kd13.alloc (.cells #[.int .i64 0, .int .i64 0] 25)
      replace kd15 := kd15.alloc (.cells #[.int .i64 0, .int .i64 0] 25)
      replace kd17 := kd17.alloc (.cells #[.int .i64 0, .int .i64 0] 25)
      replace kd19 := kd19.alloc (.cells #[.int .i64 0, .int .i64 0] 25)
      replace kd21 := kd21.alloc (.cells #[.int .i64 0, .int .i64 0] 25)
      replace kd23 := kd23.alloc (.cells #[.int .i64 0, .int .i64 0] 25)
      have kd25 := DecAt.new w15 0 0
      go_upto_region 12 with (fail)
      obtain ⟨W16, hcur⟩ : ∃ uu, uu = w15.alloc (.cells #[.int .i64 0, .int .i64 0] 25) := ⟨_, rfl⟩
      rw [← hcur] at kB kd9 kd10 kd11 kd13 kd15 kd17 kd19 kd21 kd23 kd25 ⊢
      clear hcur
      obtain ⟨z25, hcur⟩ : ∃ uu, uu = w15.heap.size := ⟨_, rfl⟩
      rw [← hcur] at kd25 ⊢
      clear hcur
      clear kd10
      have qx := fun W => eql_same x1 x2 W
      have qc := fun W => eql_same c1 c2 W
      have qp := fun W => eql_same p i W
      have q0 := fun W => eql_same 0 0 W
      refine wp_region_noPanic ?_
      refine wp_region_held_drew (S := fun X => Below w.heap.size w X ∧ DecAt X z9 p i ∧ DecAt X z11 x1 x2 ∧ DecAt X z13 x1 x2 ∧ DecAt X z15 c1 c2 ∧ DecAt X z17 c1 c2 ∧ DecAt X z19 0 0 ∧ DecAt X z21 p i ∧ DecAt X z23 p i ∧ DecAt X z25 0 0) (by kernel_rfl) ?_ (fun hHeld => ?_)
      · exact ⟨Below.drew kB, DecAt.drew kd9, DecAt.drew kd11, DecAt.drew kd13, DecAt.drew kd15, DecAt.drew kd17, DecAt.drew kd19, DecAt.drew kd21, DecAt.drew kd23, DecAt.drew kd25⟩
      replace kB := Below.drew kB
      replace kd9 := DecAt.drew kd9
      replace kd11 := DecAt.drew kd11
      replace kd13 := DecAt.drew kd13
      replace kd15 := DecAt.drew kd15
      replace kd17 := DecAt.drew kd17
      replace kd19 := DecAt.drew kd19
      replace kd21 := DecAt.drew kd21
      replace kd23 := DecAt.drew kd23
      replace kd25 := DecAt.drew kd25
      obtain ⟨qw, hcur⟩ : ∃ uu, uu = W16.drew := ⟨_, rfl⟩
      rw [← hcur] at hHeld kB kd9 kd11 kd13 kd15 kd17 kd19 kd21 kd23 kd25 ⊢
      clear hcur
      refine wpAnyH_take (i := 0) (v := ?_) (by simp only [List.getElem?_toArray, List.getElem?_cons_succ, List.getElem?_cons_zero]; rfl) (by kernel_rfl) (by kernel_rfl) (by kernel_rfl) (fun _ _ _ h => h) (Or.inl ⟨by rfl, ?_⟩) hHeld ?_
      rotate_left
      · intro x hSw; (try dsimp only at hSw); obtain ⟨_, hd9, hd11, hd13, hd15, hd17, hd19, hd21, hd23, hd25⟩ := hSw; have c0d9 := hd9.c0; have c1d9 := hd9.c1; have c0d11 := hd11.c0; have c1d11 := hd11.c1; have c0d13 := hd13.c0; have c1d13 := hd13.c1; have c0d15 := hd15.c0; have c1d15 := hd15.c1; have c0d17 := hd17.c0; have c1d17 := hd17.c1; have c0d19 := hd19.c0; have c1d19 := hd19.c1; have c0d21 := hd21.c0; have c1d21 := hd21.c1; have c0d23 := hd23.c0; have c1d23 := hd23.c1; have c0d25 := hd25.c0; have c1d25 := hd25.c1; first | (go_simp; done) | (go_simp; with_reducible rfl)
      try simp only [Act.put, List.setIfInBounds_toArray, List.set_cons_zero, List.set_cons_succ]
      refine wpAnyH_take (i := 1) (v := ?_) (by simp only [List.getElem?_toArray, List.getElem?_cons_succ, List.getElem?_cons_zero]; rfl) (by kernel_rfl) (by kernel_rfl) (by kernel_rfl) (fun _ _ _ h => h) (Or.inl ⟨by rfl, ?_⟩) hHeld ?_
      rotate_left
      · intro x hSw; (try dsimp only at hSw); obtain ⟨_, hd9, hd11, hd13, hd15, hd17, hd19, hd21, hd23, hd25⟩ := hSw; have c0d9 := hd9.c0; have c1d9 := hd9.c1; have c0d11 := hd11.c0; have c1d11 := hd11.c1; have c0d13 := hd13.c0; have c1d13 := hd13.c1; have c0d15 := hd15.c0; have c1d15 := hd15.c1; have c0d17 := hd17.c0; have c1d17 := hd17.c1; have c0d19 := hd19.c0; have c1d19 := hd19.c1; have c0d21 := hd21.c0; have c1d21 := hd21.c1; have c0d23 := hd23.c0; have c1d23 := hd23.c1; have c0d25 := hd25.c0; have c1d25 := hd25.c1; first | (go_simp; done) | (go_simp; with_reducible rfl)
      try simp only [Act.put, List.setIfInBounds_toArray, List.set_cons_zero, List.set_cons_succ]
      refine wpAnyH_take (i := 2) (v := ?_) (by simp only [List.getElem?_toArray, List.getElem?_cons_succ, List.getElem?_cons_zero]; rfl) (by kernel_rfl) (by kernel_rfl) (by kernel_rfl) (fun _ _ _ h => h) (Or.inl ⟨by rfl, ?_⟩) hHeld ?_
      rotate_left
      · intro x hSw; first | (go_simp; done) | (go_simp; with_reducible rfl)
      try simp only [Act.put, List.setIfInBounds_toArray, List.set_cons_zero, List.set_cons_succ]
      refine wpAnyH_take (i := 3) (v := ?_) (by simp only [List.getElem?_toArray, List.getElem?_cons_succ, List.getElem?_cons_zero]; rfl) (by kernel_rfl) (by kernel_rfl) (by kernel_rfl) (fun _ _ _ h => h) (Or.inl ⟨by rfl, ?_⟩) hHeld ?_
      rotate_left
      · intro x hSw; first | (go_simp; done) | (go_simp; with_reducible rfl)
      try simp only [Act.put, List.setIfInBounds_toArray, List.set_cons_zero, List.set_cons_succ]
      refine wpAnyH_take (i := 4) (v := ?_) (by simp only [List.getElem?_toArray, List.getElem?_cons_succ, List.getElem?_cons_zero]; rfl) (by kernel_rfl) (by kernel_rfl) (by kernel_rfl) (fun _ _ _ h => h) (Or.inl ⟨by rfl, ?_⟩) hHeld ?_
      rotate_left
      · intro x hSw; first | (go_simp; done) | (go_simp; with_reducible rfl)
      try simp only [Act.put, List.setIfInBounds_toArray, List.set_cons_zero, List.set_cons_succ]
      refine wpAnyH_take (i := 5) (v := ?_) (by simp only [List.getElem?_toArray, List.getElem?_cons_succ, List.getElem?_cons_zero]; rfl) (by kernel_rfl) (by kernel_rfl) (by kernel_rfl) (fun _ _ _ h => h) (Or.inl ⟨by rfl, ?_⟩) hHeld ?_
      rotate_left
      · intro x hSw; first | (go_simp; done) | (go_simp; with_reducible rfl)
      try simp only [Act.put, List.setIfInBounds_toArray, List.set_cons_zero, List.set_cons_succ]
      refine wpAnyH_take (i := 6) (v := ?_) (by simp only [List.getElem?_toArray, List.getElem?_cons_succ, List.getElem?_cons_zero]; rfl) (by kernel_rfl) (by kernel_rfl) (by kernel_rfl) (fun _ _ _ h => h) (Or.inl ⟨by rfl, ?_⟩) hHeld ?_
      rotate_left
      · intro x hSw; first | (go_simp; done) | (go_simp; with_reducible rfl)
      try simp only [Act.put, List.setIfInBounds_toArray, List.set_cons_zero, List.set_cons_succ]
      refine wpAnyH_take (i := 7) (v := ?_) (by simp only [List.getElem?_toArray, List.getElem?_cons_succ, List.getElem?_cons_zero]; rfl) (by kernel_rfl) (by kernel_rfl) (by kernel_rfl) (fun _ _ _ h => h) (Or.inl ⟨by rfl, ?_⟩) hHeld ?_
      rotate_left
      · intro x hSw; first | (go_simp; done) | (go_simp; with_reducible rfl)
      try simp only [Act.put, List.setIfInBounds_toArray, List.set_cons_zero, List.set_cons_succ]
      refine wpAnyH_take (i := 8) (v := ?_) (by simp only [List.getElem?_toArray, List.getElem?_cons_succ, List.getElem?_cons_zero]; rfl) (by kernel_rfl) (by kernel_rfl) (by kernel_rfl) (fun _ _ _ h => h) (Or.inl ⟨by rfl, ?_⟩) hHeld ?_
      rotate_left
      · intro x hSw; first | (go_simp; done) | (go_simp; with_reducible rfl)
      try simp only [Act.put, List.setIfInBounds_toArray, List.set_cons_zero, List.set_cons_succ]
      refine wpAnyH_take (i := 9) (v := ?_) (by simp only [List.getElem?_toArray, List.getElem?_cons_succ, List.getElem?_cons_zero]; rfl) (by kernel_rfl) (by kernel_rfl) (by kernel_rfl) (fun _ _ _ h => h) (Or.inl ⟨by rfl, ?_⟩) hHeld ?_
      rotate_left
      · intro x hSw; (try dsimp only at hSw); obtain ⟨_, hd9, hd11, hd13, hd15, hd17, hd19, hd21, hd23, hd25⟩ := hSw; have c0d9 := hd9.c0; have c1d9 := hd9.c1; have c0d11 := hd11.c0; have c1d11 := hd11.c1; have c0d13 := hd13.c0; have c1d13 := hd13.c1; have c0d15 := hd15.c0; have c1d15 := hd15.c1; have c0d17 := hd17.c0; have c1d17 := hd17.c1; have c0d19 := hd19.c0; have c1d19 := hd19.c1; have c0d21 := hd21.c0; have c1d21 := hd21.c1; have c0d23 := hd23.c0; have c1d23 := hd23.c1; have c0d25 := hd25.c0; have c1d25 := hd25.c1; first | (go_simp; done) | (go_simp; with_reducible rfl)
      try simp only [Act.put, List.setIfInBounds_toArray, List.set_cons_zero, List.set_cons_succ]
      refine wpAnyH_take (i := 10) (v := ?_) (by simp only [List.getElem?_toArray, List.getElem?_cons_succ, List.getElem?_cons_zero]; rfl) (by kernel_rfl) (by kernel_rfl) (by kernel_rfl) (fun _ _ _ h => h) (Or.inl ⟨by rfl, ?_⟩) hHeld ?_
      rotate_left
      · intro x hSw; (try dsimp only at hSw); obtain ⟨_, hd9, hd11, hd13, hd15, hd17, hd19, hd21, hd23, hd25⟩ := hSw; have c0d9 := hd9.c0; have c1d9 := hd9.c1; have c0d11 := hd11.c0; have c1d11 := hd11.c1; have c0d13 := hd13.c0; have c1d13 := hd13.c1; have c0d15 := hd15.c0; have c1d15 := hd15.c1; have c0d17 := hd17.c0; have c1d17 := hd17.c1; have c0d19 := hd19.c0; have c1d19 := hd19.c1; have c0d21 := hd21.c0; have c1d21 := hd21.c1; have c0d23 := hd23.c0; have c1d23 := hd23.c1; have c0d25 := hd25.c0; have c1d25 := hd25.c1; first | (go_simp; done) | (go_simp; with_reducible rfl)
      try simp only [Act.put, List.setIfInBounds_toArray, List.set_cons_zero, List.set_cons_succ]
      refine wpAnyH_take (i := 11) (v := ?_) (by simp only [List.getElem?_toArray, List.getElem?_cons_succ, List.getElem?_cons_zero]; rfl) (by kernel_rfl) (by kernel_rfl) (by kernel_rfl) (fun _ _ _ h => h) (Or.inl ⟨by rfl, ?_⟩) hHeld ?_
      rotate_left
      · intro x hSw; first | (go_simp; done) | (go_simp; with_reducible rfl)
      try simp only [Act.put, List.setIfInBounds_toArray, List.set_cons_zero, List.set_cons_succ]
      refine wpAnyH_take (i := 12) (v := ?_) (by simp only [List.getElem?_toArray, List.getElem?_cons_succ, List.getElem?_cons_zero]; rfl) (by kernel_rfl) (by kernel_rfl) (by kernel_rfl) (fun _ _ _ h => h) (Or.inl ⟨by rfl, ?_⟩) hHeld ?_
      rotate_left
      · intro x hSw; first | (go_simp; done) | (go_simp; with_reducible rfl)
      try simp only [Act.put, List.setIfInBounds_toArray, List.set_cons_zero, List.set_cons_succ]
      refine wpAnyH_take (i := 13) (v := ?_) (by simp only [List.getElem?_toArray, List.getElem?_cons_succ, List.getElem?_cons_zero]; rfl) (by kernel_rfl) (by kernel_rfl) (by kernel_rfl) (fun _ _ _ h => h) (Or.inl ⟨by rfl, ?_⟩) hHeld ?_
      rotate_left
      · intro x hSw; first | (go_simp; done) | (go_simp; with_reducible rfl)
      try simp only [Act.put, List.setIfInBounds_toArray, List.set_cons_zero, List.set_cons_succ]
      refine wpAnyH_take (i := 14) (v := ?_) (by simp only [List.getElem?_toArray, List.getElem?_cons_succ, List.getElem?_cons_zero]; rfl) (by kernel_rfl) (by kernel_rfl) (by kernel_rfl) (fun _ _ _ h => h) (Or.inl ⟨by rfl, ?_⟩) hHeld ?_
      rotate_left
      · intro x hSw; first | (go_simp; done) | (go_simp; with_reducible rfl)
      try simp only [Act.put, List.setIfInBounds_toArray, List.set_cons_zero, List.set_cons_succ]
      refine wpAnyH_take (i := 15) (v := ?_) (by simp only [List.getElem?_toArray, List.getElem?_cons_succ, List.getElem?_cons_zero]; rfl) (by kernel_rfl) (by kernel_rfl) (by kernel_rfl) (fun _ _ _ h => h) (Or.inl ⟨by rfl, ?_⟩) hHeld ?_
      rotate_left
      · intro x hSw; first | (go_simp; done) | (go_simp; with_reducible rfl)
      try simp only [Act.put, List.setIfInBounds_toArray, List.set_cons_zero, List.set_cons_succ]
      refine wpAnyH_take (i := 16) (v := ?_) (by simp only [List.getElem?_toArray, List.getElem?_cons_succ, List.getElem?_cons_zero]; rfl) (by kernel_rfl) (by kernel_rfl) (by kernel_rfl) (fun _ _ _ h => h) (Or.inl ⟨by rfl, ?_⟩) hHeld ?_
      rotate_left
      · intro x hSw; first | (go_simp; done) | (go_simp; with_reducible rfl)
      try simp only [Act.put, List.setIfInBounds_toArray, List.set_cons_zero, List.set_cons_succ]
      refine wpAnyH_take (i := 17) (v := ?_) (by simp only [List.getElem?_toArray, List.getElem?_cons_succ, List.getElem?_cons_zero]; rfl) (by kernel_rfl) (by kernel_rfl) (by kernel_rfl) (fun _ _ _ h => h) (Or.inl ⟨by rfl, ?_⟩) hHeld ?_
      rotate_left
      · intro x hSw; first | (go_simp; done) | (go_simp; with_reducible rfl)
      try simp only [Act.put, List.setIfInBounds_toArray, List.set_cons_zero, List.set_cons_succ]
      refine wpAnyH_take (i := 18) (v := ?_) (by simp only [List.getElem?_toArray, List.getElem?_cons_succ, List.getElem?_cons_zero]; rfl) (by kernel_rfl) (by kernel_rfl) (by kernel_rfl) (fun _ _ _ h => h) (Or.inl ⟨by rfl, ?_⟩) hHeld ?_
      rotate_left
      · intro x hSw; first | (go_simp; done) | (go_simp; with_reducible rfl)
      try simp only [Act.put, List.setIfInBounds_toArray, List.set_cons_zero, List.set_cons_succ]
      refine wpAnyH_take (i := 19) (v := ?_) (by simp only [List.getElem?_toArray, List.getElem?_cons_succ, List.getElem?_cons_zero]; rfl) (by kernel_rfl) (by kernel_rfl) (by kernel_rfl) (fun _ _ _ h => h) (Or.inl ⟨by rfl, ?_⟩) hHeld ?_
      rotate_left
      · intro x hSw; (try dsimp only at hSw); obtain ⟨_, hd9, hd11, hd13, hd15, hd17, hd19, hd21, hd23, hd25⟩ := hSw; have c0d9 := hd9.c0; have c1d9 := hd9.c1; have c0d11 := hd11.c0; have c1d11 := hd11.c1; have c0d13 := hd13.c0; have c1d13 := hd13.c1; have c0d15 := hd15.c0; have c1d15 := hd15.c1; have c0d17 := hd17.c0; have c1d17 := hd17.c1; have c0d19 := hd19.c0; have c1d19 := hd19.c1; have c0d21 := hd21.c0; have c1d21 := hd21.c1; have c0d23 := hd23.c0; have c1d23 := hd23.c1; have c0d25 := hd25.c0; have c1d25 := hd25.c1; first | (go_simp; done) | (go_simp; with_reducible rfl)
      try simp only [Act.put, List.setIfInBounds_toArray, List.set_cons_zero, List.set_cons_succ]
      refine wpAnyH_take (i := 20) (v := ?_) (by simp only [List.getElem?_toArray, List.getElem?_cons_succ, List.getElem?_cons_zero]; rfl) (by kernel_rfl) (by kernel_rfl) (by kernel_rfl) (fun _ _ _ h => h) (Or.inl ⟨by rfl, ?_⟩) hHeld ?_
      rotate_left
      · intro x hSw; first | (go_simp; done) | (go_simp; with_reducible rfl)
      try simp only [Act.put, List.setIfInBounds_toArray, List.set_cons_zero, List.set_cons_succ]
      refine wpAnyH_take (i := 21) (v := ?_) (by simp only [List.getElem?_toArray, List.getElem?_cons_succ, List.getElem?_cons_zero]; rfl) (by kernel_rfl) (by kernel_rfl) (by kernel_rfl) (fun _ _ _ h => h) (Or.inl ⟨by rfl, ?_⟩) hHeld ?_
      rotate_left
      · intro x hSw; first | (go_simp; done) | (go_simp; with_reducible rfl)
      try simp only [Act.put, List.setIfInBounds_toArray, List.set_cons_zero, List.set_cons_succ]
      refine wpAnyH_take (i := 22) (v := ?_) (by simp only [List.getElem?_toArray, List.getElem?_cons_succ, List.getElem?_cons_zero]; rfl) (by kernel_rfl) (by kernel_rfl) (by kernel_rfl) (fun _ _ _ h => h) (Or.inl ⟨by rfl, ?_⟩) hHeld ?_
      rotate_left
      · intro x hSw; first | (go_simp; done) | (go_simp; with_reducible rfl)
      try simp only [Act.put, List.setIfInBounds_toArray, List.set_cons_zero, List.set_cons_succ]
      refine wpAnyH_take (i := 23) (v := ?_) (by simp only [List.getElem?_toArray, List.getElem?_cons_succ, List.getElem?_cons_zero]; rfl) (by kernel_rfl) (by kernel_rfl) (by kernel_rfl) (fun _ _ _ h => h) (Or.inl ⟨by rfl, ?_⟩) hHeld ?_
      rotate_left
      · intro x hSw; first | (go_simp; done) | (go_simp; with_reducible rfl)
      try simp only [Act.put, List.setIfInBounds_toArray, List.set_cons_zero, List.set_cons_succ]
      refine wpAnyH_take (i := 24) (v := ?_) (by simp only [List.getElem?_toArray, List.getElem?_cons_succ, List.getElem?_cons_zero]; rfl) (by kernel_rfl) (by kernel_rfl) (by kernel_rfl) (fun _ _ _ h => h) (Or.inl ⟨by rfl, ?_⟩) hHeld ?_
      rotate_left
      · intro x hSw; first | (go_simp; done) | (go_simp; with_reducible rfl)
      try simp only [Act.put, List.setIfInBounds_toArray, List.set_cons_zero, List.set_cons_succ]
      refine wpAnyH_take (i := 25) (v := ?_) (by simp only [List.getElem?_toArray, List.getElem?_cons_succ, List.getElem?_cons_zero]; rfl) (by kernel_rfl) (by kernel_rfl) (by kernel_rfl) (fun _ _ _ h => h) (Or.inl ⟨by rfl, ?_⟩) hHeld ?_
      rotate_left
      · intro x hSw; first | (go_simp; done) | (go_simp; with_reducible rfl)
      try simp only [Act.put, List.setIfInBounds_toArray, List.set_cons_zero, List.set_cons_succ]
      refine wpAnyH_take (i := 26) (v := ?_) (by simp only [List.getElem?_toArray, List.getElem?_cons_succ, List.getElem?_cons_zero]; rfl) (by kernel_rfl) (by kernel_rfl) (by kernel_rfl) (fun _ _ _ h => h) (Or.inl ⟨by rfl, ?_⟩) hHeld ?_
      rotate_left
      · intro x hSw; first | (go_simp; done) | (go_simp; with_reducible rfl)
      try simp only [Act.put, List.setIfInBounds_toArray, List.set_cons_zero, List.set_cons_succ]
      refine wpAnyH_take (i := 27) (v := ?_) (by simp only [List.getElem?_toArray, List.getElem?_cons_succ, List.getElem?_cons_zero]; rfl) (by kernel_rfl) (by kernel_rfl) (by kernel_rfl) (fun _ _ _ h => h) (Or.inl ⟨by rfl, ?_⟩) hHeld ?_
      rotate_left
      · intro x hSw; (try dsimp only at hSw); obtain ⟨_, hd9, hd11, hd13, hd15, hd17, hd19, hd21, hd23, hd25⟩ := hSw; have c0d9 := hd9.c0; have c1d9 := hd9.c1; have c0d11 := hd11.c0; have c1d11 := hd11.c1; have c0d13 := hd13.c0; have c1d13 := hd13.c1; have c0d15 := hd15.c0; have c1d15 := hd15.c1; have c0d17 := hd17.c0; have c1d17 := hd17.c1; have c0d19 := hd19.c0; have c1d19 := hd19.c1; have c0d21 := hd21.c0; have c1d21 := hd21.c1; have c0d23 := hd23.c0; have c1d23 := hd23.c1; have c0d25 := hd25.c0; have c1d25 := hd25.c1; first | (go_simp; done) | (go_simp; with_reducible rfl)
      try simp only [Act.put, List.setIfInBounds_toArray, List.set_cons_zero, List.set_cons_succ]
      refine wpAnyH_take (i := 28) (v := ?_) (by simp only [List.getElem?_toArray, List.getElem?_cons_succ, List.getElem?_cons_zero]; rfl) (by kernel_rfl) (by kernel_rfl) (by kernel_rfl) (fun _ _ _ h => h) (Or.inl ⟨by rfl, ?_⟩) hHeld ?_
      rotate_left
      · intro x hSw; (try dsimp only at hSw); obtain ⟨_, hd9, hd11, hd13, hd15, hd17, hd19, hd21, hd23, hd25⟩ := hSw; have c0d9 := hd9.c0; have c1d9 := hd9.c1; have c0d11 := hd11.c0; have c1d11 := hd11.c1; have c0d13 := hd13.c0; have c1d13 := hd13.c1; have c0d15 := hd15.c0; have c1d15 := hd15.c1; have c0d17 := hd17.c0; have c1d17 := hd17.c1; have c0d19 := hd19.c0; have c1d19 := hd19.c1; have c0d21 := hd21.c0; have c1d21 := hd21.c1; have c0d23 := hd23.c0; have c1d23 := hd23.c1; have c0d25 := hd25.c0; have c1d25 := hd25.c1; first | (go_simp; done) | (go_simp; with_reducible rfl)
      try simp only [Act.put, List.setIfInBounds_toArray, List.set_cons_zero, List.set_cons_succ]
      refine wpAnyH_take (i := 29) (v := ?_) (by simp only [List.getElem?_toArray, List.getElem?_cons_succ, List.getElem?_cons_zero]; rfl) (by kernel_rfl) (by kernel_rfl) (by kernel_rfl) (fun _ _ _ h => h) (Or.inl ⟨by rfl, ?_⟩) hHeld ?_
      rotate_left
      · intro x hSw; first | (go_simp; done) | (go_simp; with_reducible rfl)
      try simp only [Act.put, List.setIfInBounds_toArray, List.set_cons_zero, List.set_cons_succ]
      refine wpAnyH_take (i := 30) (v := ?_) (by simp only [List.getElem?_toArray, List.getElem?_cons_succ, List.getElem?_cons_zero]; rfl) (by kernel_rfl) (by kernel_rfl) (by kernel_rfl) (fun _ _ _ h => h) (Or.inl ⟨by rfl, ?_⟩) hHeld ?_
      rotate_left
      · intro x hSw; first | (go_simp; done) | (go_simp; with_reducible rfl)
      try simp only [Act.put, List.setIfInBounds_toArray, List.set_cons_zero, List.set_cons_succ]
      refine wpAnyH_take (i := 31) (v := ?_) (by simp only [List.getElem?_toArray, List.getElem?_cons_succ, List.getElem?_cons_zero]; rfl) (by kernel_rfl) (by kernel_rfl) (by kernel_rfl) (fun _ _ _ h => h) (Or.inl ⟨by rfl, ?_⟩) hHeld ?_
      rotate_left
      · intro x hSw; first | (go_simp; done) | (go_simp; with_reducible rfl)
      try simp only [Act.put, List.setIfInBounds_toArray, List.set_cons_zero, List.set_cons_succ]
      refine wpAnyH_take (i := 32) (v := ?_) (by simp only [List.getElem?_toArray, List.getElem?_cons_succ, List.getElem?_cons_zero]; rfl) (by kernel_rfl) (by kernel_rfl) (by kernel_rfl) (fun _ _ _ h => h) (Or.inl ⟨by rfl, ?_⟩) hHeld ?_
      rotate_left
      · intro x hSw; first | (go_simp; done) | (go_simp; with_reducible rfl)
      try simp only [Act.put, List.setIfInBounds_toArray, List.set_cons_zero, List.set_cons_succ]
      refine wpAnyH_take (i := 33) (v := ?_) (by simp only [List.getElem?_toArray, List.getElem?_cons_succ, List.getElem?_cons_zero]; rfl) (by kernel_rfl) (by kernel_rfl) (by kernel_rfl) (fun _ _ _ h => h) (Or.inl ⟨by rfl, ?_⟩) hHeld ?_
      rotate_left
      · intro x hSw; first | (go_simp; done) | (go_simp; with_reducible rfl)
      try simp only [Act.put, List.setIfInBounds_toArray, List.set_cons_zero, List.set_cons_succ]
      refine wpAnyH_take (i := 34) (v := ?_) (by simp only [List.getElem?_toArray, List.getElem?_cons_succ, List.getElem?_cons_zero]; rfl) (by kernel_rfl) (by kernel_rfl) (by kernel_rfl) (fun _ _ _ h => h) (Or.inl ⟨by rfl, ?_⟩) hHeld ?_
      rotate_left
      · intro x hSw; first | (go_simp; done) | (go_simp; with_reducible rfl)
      try simp only [Act.put, List.setIfInBounds_toArray, List.set_cons_zero, List.set_cons_succ]
      refine wpAnyH_take (i := 35) (v := ?_) (by simp only [List.getElem?_toArray, List.getElem?_cons_succ, List.getElem?_cons_zero]; rfl) (by kernel_rfl) (by kernel_rfl) (by kernel_rfl) (fun _ _ _ h => h) (Or.inl ⟨by rfl, ?_⟩) hHeld ?_
      rotate_left
      · intro x hSw; (try dsimp only at hSw); obtain ⟨_, hd9, hd11, hd13, hd15, hd17, hd19, hd21, hd23, hd25⟩ := hSw; have c0d9 := hd9.c0; have c1d9 := hd9.c1; have c0d11 := hd11.c0; have c1d11 := hd11.c1; have c0d13 := hd13.c0; have c1d13 := hd13.c1; have c0d15 := hd15.c0; have c1d15 := hd15.c1; have c0d17 := hd17.c0; have c1d17 := hd17.c1; have c0d19 := hd19.c0; have c1d19 := hd19.c1; have c0d21 := hd21.c0; have c1d21 := hd21.c1; have c0d23 := hd23.c0; have c1d23 := hd23.c1; have c0d25 := hd25.c0; have c1d25 := hd25.c1; first | (go_simp; done) | (go_simp; with_reducible rfl)
      try simp only [Act.put, List.setIfInBounds_toArray, List.set_cons_zero, List.set_cons_succ]
      refine wpAnyH_take (i := 36) (v := ?_) (by simp only [List.getElem?_toArray, List.getElem?_cons_succ, List.getElem?_cons_zero]; rfl) (by kernel_rfl) (by kernel_rfl) (by kernel_rfl) (fun _ _ _ h => h) (Or.inl ⟨by rfl, ?_⟩) hHeld ?_
      rotate_left
      · intro x hSw; (try dsimp only at hSw); obtain ⟨_, hd9, hd11, hd13, hd15, hd17, hd19, hd21, hd23, hd25⟩ := hSw; have c0d9 := hd9.c0; have c1d9 := hd9.c1; have c0d11 := hd11.c0; have c1d11 := hd11.c1; have c0d13 := hd13.c0; have c1d13 := hd13.c1; have c0d15 := hd15.c0; have c1d15 := hd15.c1; have c0d17 := hd17.c0; have c1d17 := hd17.c1; have c0d19 := hd19.c0; have c1d19 := hd19.c1; have c0d21 := hd21.c0; have c1d21 := hd21.c1; have c0d23 := hd23.c0; have c1d23 := hd23.c1; have c0d25 := hd25.c0; have c1d25 := hd25.c1; first | (go_simp; done) | (go_simp; with_reducible rfl)
      try simp only [Act.put, List.setIfInBounds_toArray, List.set_cons_zero, List.set_cons_succ]
      refine wpAnyH_take (i := 37) (v := ?_) (by simp only [List.getElem?_toArray, List.getElem?_cons_succ, List.getElem?_cons_zero]; rfl) (by kernel_rfl) (by kernel_rfl) (by kernel_rfl) (fun _ _ _ h => h) (Or.inl ⟨by rfl, ?_⟩) hHeld ?_
      rotate_left
      · intro x hSw; first | (go_simp; done) | (go_simp; with_reducible rfl)
      try simp only [Act.put, List.setIfInBounds_toArray, List.set_cons_zero, List.set_cons_succ]
      refine wpAnyH_take (i := 38) (v := ?_) (by simp only [List.getElem?_toArray, List.getElem?_cons_succ, List.getElem?_cons_zero]; rfl) (by kernel_rfl) (by kernel_rfl) (by kernel_rfl) (fun _ _ _ h => h) (Or.inl ⟨by rfl, ?_⟩) hHeld ?_
      rotate_left
      · intro x hSw; first | (go_simp; done) | (go_simp; with_reducible rfl)
      try simp only [Act.put, List.setIfInBounds_toArray, List.set_cons_zero, List.set_cons_succ]
      refine wpAnyH_take (i := 39) (v := ?_) (by simp only [List.getElem?_toArray, List.getElem?_cons_succ, List.getElem?_cons_zero]; rfl) (by kernel_rfl) (by kernel_rfl) (by kernel_rfl) (fun _ _ _ h => h) (Or.inl ⟨by rfl, ?_⟩) hHeld ?_
      rotate_left
      · intro x hSw; first | (go_simp; done) | (go_simp; with_reducible rfl)
      try simp only [Act.put, List.setIfInBounds_toArray, List.set_cons_zero, List.set_cons_succ]
      refine wpAnyH_take (i := 40) (v := ?_) (by simp only [List.getElem?_toArray, List.getElem?_cons_succ, List.getElem?_cons_zero]; rfl) (by kernel_rfl) (by kernel_rfl) (by kernel_rfl) (fun _ _ _ h => h) (Or.inl ⟨by rfl, ?_⟩) hHeld ?_
      rotate_left
      · intro x hSw; first | (go_simp; done) | (go_simp; with_reducible rfl)
      try simp only [Act.put, List.setIfInBounds_toArray, List.set_cons_zero, List.set_cons_succ]
      refine wpAnyH_take (i := 41) (v := ?_) (by simp only [List.getElem?_toArray, List.getElem?_cons_succ, List.getElem?_cons_zero]; rfl) (by kernel_rfl) (by kernel_rfl) (by kernel_rfl) (fun _ _ _ h => h) (Or.inl ⟨by rfl, ?_⟩) hHeld ?_
      rotate_left
      · intro x hSw; first | (go_simp; done) | (go_simp; with_reducible rfl)
      try simp only [Act.put, List.setIfInBounds_toArray, List.set_cons_zero, List.set_cons_succ]
      refine wpAnyH_take (i := 42) (v := ?_) (by simp only [List.getElem?_toArray, List.getElem?_cons_succ, List.getElem?_cons_zero]; rfl) (by kernel_rfl) (by kernel_rfl) (by kernel_rfl) (fun _ _ _ h => h) (Or.inl ⟨by rfl, ?_⟩) hHeld ?_
      rotate_left
      · intro x hSw; first | (go_simp; done) | (go_simp; with_reducible rfl)
      try simp only [Act.put, List.setIfInBounds_toArray, List.set_cons_zero, List.set_cons_succ]
      refine wpAnyH_take (i := 43) (v := ?_) (by simp only [List.getElem?_toArray, List.getElem?_cons_succ, List.getElem?_cons_zero]; rfl) (by kernel_rfl) (by kernel_rfl) (by kernel_rfl) (fun _ _ _ h => h) (Or.inl ⟨by rfl, ?_⟩) hHeld ?_
      rotate_left
      · intro x hSw; (try dsimp only at hSw); obtain ⟨_, hd9, hd11, hd13, hd15, hd17, hd19, hd21, hd23, hd25⟩ := hSw; have c0d9 := hd9.c0; have c1d9 := hd9.c1; have c0d11 := hd11.c0; have c1d11 := hd11.c1; have c0d13 := hd13.c0; have c1d13 := hd13.c1; have c0d15 := hd15.c0; have c1d15 := hd15.c1; have c0d17 := hd17.c0; have c1d17 := hd17.c1; have c0d19 := hd19.c0; have c1d19 := hd19.c1; have c0d21 := hd21.c0; have c1d21 := hd21.c1; have c0d23 := hd23.c0; have c1d23 := hd23.c1; have c0d25 := hd25.c0; have c1d25 := hd25.c1; first | (go_simp; done) | (go_simp; with_reducible rfl)
      try simp only [Act.put, List.setIfInBounds_toArray, List.set_cons_zero, List.set_cons_succ]
      refine wpAnyH_take (i := 44) (v := ?_) (by simp only [List.getElem?_toArray, List.getElem?_cons_succ, List.getElem?_cons_zero]; rfl) (by kernel_rfl) (by kernel_rfl) (by kernel_rfl) (fun _ _ _ h => h) (Or.inl ⟨by rfl, ?_⟩) hHeld ?_
      rotate_left
      · intro x hSw; first | (go_simp; done) | (go_simp; with_reducible rfl)
      try simp only [Act.put, List.setIfInBounds_toArray, List.set_cons_zero, List.set_cons_succ]
      refine wpAnyH_take (i := 45) (v := ?_) (by simp only [List.getElem?_toArray, List.getElem?_cons_succ, List.getElem?_cons_zero]; rfl) (by kernel_rfl) (by kernel_rfl) (by kernel_rfl) (fun _ _ _ h => h) (Or.inl ⟨by rfl, ?_⟩) hHeld ?_
      rotate_left
      · intro x hSw; first | (go_simp; done) | (go_simp; with_reducible rfl)
      try simp only [Act.put, List.setIfInBounds_toArray, List.set_cons_zero, List.set_cons_succ]
      refine wpAnyH_take (i := 46) (v := ?_) (by simp only [List.getElem?_toArray, List.getElem?_cons_succ, List.getElem?_cons_zero]; rfl) (by kernel_rfl) (by kernel_rfl) (by kernel_rfl) (fun _ _ _ h => h) (Or.inl ⟨by rfl, ?_⟩) hHeld ?_
      rotate_left
      · intro x hSw; first | (go_simp; done) | (go_simp; with_reducible rfl)
      try simp only [Act.put, List.setIfInBounds_toArray, List.set_cons_zero, List.set_cons_succ]
      refine wpAnyH_take (i := 47) (v := ?_) (by simp only [List.getElem?_toArray, List.getElem?_cons_succ, List.getElem?_cons_zero]; rfl) (by kernel_rfl) (by kernel_rfl) (by kernel_rfl) (fun _ _ _ h => h) (Or.inl ⟨by rfl, ?_⟩) hHeld ?_
      rotate_left
      · intro x hSw; first | (go_simp; done) | (go_simp; with_reducible rfl)
      try simp only [Act.put, List.setIfInBounds_toArray, List.set_cons_zero, List.set_cons_succ]
      refine wpAnyH_take (i := 48) (v := ?_) (by simp only [List.getElem?_toArray, List.getElem?_cons_succ, List.getElem?_cons_zero]; rfl) (by kernel_rfl) (by kernel_rfl) (by kernel_rfl) (fun _ _ _ h => h) (Or.inl ⟨by rfl, ?_⟩) hHeld ?_
      rotate_left
      · intro x hSw; first | (go_simp; done) | (go_simp; with_reducible rfl)
      try simp only [Act.put, List.setIfInBounds_toArray, List.set_cons_zero, List.set_cons_succ]
      refine wpAnyH_take (i := 49) (v := ?_) (by simp only [List.getElem?_toArray, List.getElem?_cons_succ, List.getElem?_cons_zero]; rfl) (by kernel_rfl) (by kernel_rfl) (by kernel_rfl) (fun _ _ _ h => h) (Or.inl ⟨by rfl, ?_⟩) hHeld ?_
      rotate_left
      · intro x hSw; first | (go_simp; done) | (go_simp; with_reducible rfl)
      try simp only [Act.put, List.setIfInBounds_toArray, List.set_cons_zero, List.set_cons_succ]
      refine wpAnyH_take (i := 50) (v := ?_) (by simp only [List.getElem?_toArray, List.getElem?_cons_succ, List.getElem?_cons_zero]; rfl) (by kernel_rfl) (by kernel_rfl) (by kernel_rfl) (fun _ _ _ h => h) (Or.inl ⟨by rfl, ?_⟩) hHeld ?_
      rotate_left
      · intro x hSw; first | (go_simp; done) | (go_simp; with_reducible rfl)
      try simp only [Act.put, List.setIfInBounds_toArray, List.set_cons_zero, List.set_cons_succ]
      refine wpAnyH_take (i := 51) (v := ?_) (by simp only [List.getElem?_toArray, List.getElem?_cons_succ, List.getElem?_cons_zero]; rfl) (by kernel_rfl) (by kernel_rfl) (by kernel_rfl) (fun _ _ _ h => h) (Or.inl ⟨by rfl, ?_⟩) hHeld ?_
      rotate_left
      · intro x hSw; (try dsimp only at hSw); obtain ⟨_, hd9, hd11, hd13, hd15, hd17, hd19, hd21, hd23, hd25⟩ := hSw; have c0d9 := hd9.c0; have c1d9 := hd9.c1; have c0d11 := hd11.c0; have c1d11 := hd11.c1; have c0d13 := hd13.c0; have c1d13 := hd13.c1; have c0d15 := hd15.c0; have c1d15 := hd15.c1; have c0d17 := hd17.c0; have c1d17 := hd17.c1; have c0d19 := hd19.c0; have c1d19 := hd19.c1; have c0d21 := hd21.c0; have c1d21 := hd21.c1; have c0d23 := hd23.c0; have c1d23 := hd23.c1; have c0d25 := hd25.c0; have c1d25 := hd25.c1; first | (go_simp; done) | (go_simp; with_reducible rfl)
      try simp only [Act.put, List.setIfInBounds_toArray, List.set_cons_zero, List.set_cons_succ]
      refine wpAnyH_take (i := 54) (v := ?_) (by simp only [List.getElem?_toArray, List.getElem?_cons_succ, List.getElem?_cons_zero]; rfl) (by kernel_rfl) (by kernel_rfl) (by kernel_rfl) (fun _ _ _ h => h) (Or.inl ⟨by rfl, ?_⟩) hHeld ?_
      rotate_left
      · intro x hSw; (try dsimp only at hSw); obtain ⟨_, hd9, hd11, hd13, hd15, hd17, hd19, hd21, hd23, hd25⟩ := hSw; have c0d9 := hd9.c0; have c1d9 := hd9.c1; have c0d11 := hd11.c0; have c1d11 := hd11.c1; have c0d13 := hd13.c0; have c1d13 := hd13.c1; have c0d15 := hd15.c0; have c1d15 := hd15.c1; have c0d17 := hd17.c0; have c1d17 := hd17.c1; have c0d19 := hd19.c0; have c1d19 := hd19.c1; have c0d21 := hd21.c0; have c1d21 := hd21.c1; have c0d23 := hd23.c0; have c1d23 := hd23.c1; have c0d25 := hd25.c0; have c1d25 := hd25.c1; first | (go_simp; done) | (go_simp; with_reducible rfl)
      try simp only [Act.put, List.setIfInBounds_toArray, List.set_cons_zero, List.set_cons_succ]
      refine wpAnyH_ready (rs := [52]) (by kernel_rfl) (by simp) ?_
      refine AllReadyH.cons (by simp only [List.getElem?_toArray, List.getElem?_cons_succ, List.getElem?_cons_zero]; rfl) (fun K hK => ?_) AllReadyH.nil
      try go_simp
      refine (hN1.out _).mono ?_; rintro e wq1 ⟨rfl, q1⟩
      replace kB := kB.trans (q1.mono kB.size)
      replace kd9 := kd9.below q1
      replace kd11 := kd11.below q1
      replace kd13 := kd13.below q1
      replace kd15 := kd15.below q1
      replace kd17 := kd17.below q1
      replace kd19 := kd19.below q1
      replace kd21 := kd21.below q1
      replace kd23 := kd23.below q1
      replace kd25 := kd25.below q1
      clear q1
      try go_wp2_with fail
      refine hK.out _ _ ?_ (fun hHeld => ?_)
      · exact ⟨kB, kd9, kd11, kd13, kd15, kd17, kd19, kd21, kd23, kd25⟩
      clear hK K
      try simp only [Act.put, List.setIfInBounds_toArray, List.set_cons_zero, List.set_cons_succ]
      refine wpAnyH_ready (rs := [53]) (by kernel_rfl) (by simp) ?_
      refine AllReadyH.cons (by simp only [List.getElem?_toArray, List.getElem?_cons_succ, List.getElem?_cons_zero]; rfl) (fun K hK => ?_) AllReadyH.nil
      try go_simp
      refine (hN2.out _).mono ?_; rintro e wq2 ⟨rfl, q2⟩
      replace kB := kB.trans (q2.mono kB.size)
      replace kd9 := kd9.below q2
      replace kd11 := kd11.below q2
      replace kd13 := kd13.below q2
      replace kd15 := kd15.below q2
      replace kd17 := kd17.below q2
      replace kd19 := kd19.below q2
      replace kd21 := kd21.below q2
      replace kd23 := kd23.below q2
      replace kd25 := kd25.below q2
      clear q2
      try go_wp2_with fail
      refine hK.out _ _ ?_ (fun hHeld => ?_)
      · exact ⟨kB, kd9, kd11, kd13, kd15, kd17, kd19, kd21, kd23, kd25⟩
      clear hK K
      try simp only [Act.put, List.setIfInBounds_toArray, List.set_cons_zero, List.set_cons_succ]
      refine wpAnyH_take (i := 55) (v := ?_) (by simp only [List.getElem?_toArray, List.getElem?_cons_succ, List.getElem?_cons_zero]; rfl) (by kernel_rfl) (by kernel_rfl) (by kernel_rfl) (fun _ _ _ h => h) (Or.inl ⟨by rfl, ?_⟩) hHeld ?_
      rotate_left
      · intro x hSw; first | (go_simp; done) | (go_simp; with_reducible rfl)
      try simp only [Act.put, List.setIfInBounds_toArray, List.set_cons_zero, List.set_cons_succ]
      refine wpAnyH_take (i := 56) (v := ?_) (by simp only [List.getElem?_toArray, List.getElem?_cons_succ, List.getElem?_cons_zero]; rfl) (by kernel_rfl) (by kernel_rfl) (by kernel_rfl) (fun _ _ _ h => h) (Or.inl ⟨by rfl, ?_⟩) hHeld ?_
      rotate_left
      · intro x hSw; first | (go_simp; done) | (go_simp; with_reducible rfl)
      try simp only [Act.put, List.setIfInBounds_toArray, List.set_cons_zero, List.set_cons_succ]
      refine wpAnyH_take (i := 57) (v := ?_) (by simp only [List.getElem?_toArray, List.getElem?_cons_succ, List.getElem?_cons_zero]; rfl) (by kernel_rfl) (by kernel_rfl) (by kernel_rfl) (fun _ _ _ h => h) (Or.inl ⟨by rfl, ?_⟩) hHeld ?_
      rotate_left
      · intro x hSw; first | (go_simp; done) | (go_simp; with_reducible rfl)
      try simp only [Act.put, List.setIfInBounds_toArray, List.set_cons_zero, List.set_cons_succ]
      refine wpAnyH_done (by kernel_rfl) ?_ _
      refine NoPanic.normal ?_
      go_wp2_with fail
      go_ret
      exact ⟨rfl, kB⟩

end Go.Proofs.Ytpciohnnnpgpiaa
