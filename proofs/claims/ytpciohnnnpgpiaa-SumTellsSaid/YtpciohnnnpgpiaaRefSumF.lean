/- The reference's Add of two. -/
import Derived.Test.YtpciohnnnpgpiaaRefSumE
import Derived.Deep.DeepCutAuto
set_option linter.unusedVariables false
set_option linter.unusedSimpArgs false
namespace Go.Proofs.Ytpciohnnnpgpiaa
open Go.RowKit Dc
attribute [local go_sem ↓] Go.wp_at_zero Go.wp_at_succ

theorem rtens_lev (m s : Int) (v : Value) (W : World) (hv : DR W v (digs m.natAbs)) (hm : m.natAbs ≤ big) (h0 : 0 ≤ s) (h1 : s ≤ 18) :
    Calls Try.prog 37 #[v, .int .i64 (18 - s)] W fun e w' => ∃ v', e = .returned v' ∧ DR w' v' (digs (lev m s)) ∧ Below W.heap.size W w' := by
  have h := rtens_calls m.natAbs (18 - s).toNat v W hv (by unfold big at hm; omega) (by omega)
  rw [show (((18 - s).toNat : Nat) : Int) = 18 - s by omega] at h
  exact h
theorem cmp_digs (x y : Nat) : cmpN (digs x) (digs y) = if x < y then -1 else if y < x then 1 else 0 := by
  rw [cmpN_val _ _ (digs_le x) (digs_le y) (fun d t h => digs_head x d t h) (fun d t h => digs_head y d t h), digs_val, digs_val]
theorem rcompare_lt {x y : Nat} (h : x < y) (v u : Value) (W : World) (hv : DR W v (digs x)) (hu : DR W u (digs y)) :
    Calls Try.prog 44 #[v, u] W fun e w' => e = .returned (.int .i64 (-1)) ∧ Below W.heap.size W w' := by
  have e := rcompare_calls _ _ v u W hv hu
  rwa [cmp_digs, if_pos h] at e
theorem rcompare_ge {x y : Nat} (h : ¬ x < y) : ∃ k : Int, 0 ≤ k ∧ ∀ (v u : Value) (W : World) (_ : DR W v (digs x)) (_ : DR W u (digs y)),
    Calls Try.prog 44 #[v, u] W fun e w' => e = .returned (.int .i64 k) ∧ Below W.heap.size W w' := by
  refine ⟨if y < x then 1 else 0, by split <;> omega, fun v u W hv hu => ?_⟩
  have e := rcompare_calls _ _ v u W hv hu
  rwa [cmp_digs, if_neg h] at e
set_option maxRecDepth 100000 in
set_option maxHeartbeats 16000000 in
theorem radd_walk (m s n t : Int) (w : World) (hm1 : -9223372036854775808 ≤ m) (hm2 : m ≤ 9223372036854775807) (hn1 : -9223372036854775808 ≤ n) (hn2 : n ≤ 9223372036854775807) :
    Calls Try.prog 24 #[dv2 m s, dv2 n t] w fun e w' => e = .returned (normV (radd2 m s n t)) ∧ Below w.heap.size w w' := by
  have kB := kb_alloc (kb_alloc (kb_alloc (Below.refl w.heap.size w) (Nat.le_refl _) (.cells #[.int .i64 m, .int .i64 s] 25)) (Nat.le_refl _) (.cells #[.int .i64 n, .int .i64 t] 25)) (Nat.le_refl _) (.cells #[.int .i64 0, .int .i64 0] 25)
  have kd2 := ((DecAt.new w m s).alloc (.cells #[.int .i64 n, .int .i64 t] 25)).alloc (.cells #[.int .i64 0, .int .i64 0] 25)
  have kd3 := (DecAt.new (w.alloc (.cells #[.int .i64 m, .int .i64 s] 25)) n t).alloc (.cells #[.int .i64 0, .int .i64 0] 25)
  have kd4 := DecAt.new ((w.alloc (.cells #[.int .i64 m, .int .i64 s] 25)).alloc (.cells #[.int .i64 n, .int .i64 t] 25)) 0 0
  rw [show (w.alloc (.cells #[.int .i64 m, .int .i64 s] 25)).heap.size = w.heap.size + 1 by simp] at kd3
  rw [show ((w.alloc (.cells #[.int .i64 m, .int .i64 s] 25)).alloc (.cells #[.int .i64 n, .int .i64 t] 25)).heap.size = w.heap.size + 2 by simp] at kd4
  go_enter Try.func24, Try.ntmps24
  go_wp2_with fail
  refine (rgood_calls m s _).mono ?_; rintro e w1 ⟨rfl, b1⟩
  replace kB := kB.trans (b1.mono kB.size)
  replace kd2 := kd2.below b1
  replace kd3 := kd3.below b1
  replace kd4 := kd4.below b1
  clear b1
  cases hga : goodD m s with
  | false =>
    have hres : Hid (radd2 m s n t = none) := by show _ = _; unfold radd2; rw [if_neg (by simp [hga])]
    clear hga
    have sc0 := kd4.c0
    have sc1 := kd4.c1
    have sf0 := kd4.f0
    have sf1 := kd4.f1
    go_wp2_with fail
    refine bodyPost_ret (v := normV none) (by simp [results, Try.results24, go_sem, normV, sc0, sc1, sf0, sf1]) rfl ⟨by rw [hres.out], ?_⟩
    repeat (refine Below.setCell ?_ (by first | (simp; done) | (simp; omega)) _)
    exact kB
  | true =>
    have c0d2 := kd2.c0; have c1d2 := kd2.c1; have c0d3 := kd3.c0; have c1d3 := kd3.c1
    have Hga := Lib.hid hga
    clear hga
    go_wp2_with fail
    clear c0d2 c1d2 c0d3 c1d3
    refine (rgood_calls n t _).mono ?_; rintro e w2 ⟨rfl, b2⟩
    replace kB := kB.trans (b2.mono kB.size)
    replace kd2 := kd2.below b2
    replace kd3 := kd3.below b2
    replace kd4 := kd4.below b2
    clear b2
    cases hgb : goodD n t with
    | false =>
      have hres : Hid (radd2 m s n t = none) := by show _ = _; unfold radd2; rw [if_neg (by simp [hgb])]
      clear hgb
      have sc0 := kd4.c0
      have sc1 := kd4.c1
      have sf0 := kd4.f0
      have sf1 := kd4.f1
      go_wp2_with fail
      refine bodyPost_ret (v := normV none) (by simp [results, Try.results24, go_sem, normV, sc0, sc1, sf0, sf1]) rfl ⟨by rw [hres.out], ?_⟩
      repeat (refine Below.setCell ?_ (by first | (simp; done) | (simp; omega)) _)
      exact kB
    | true =>
      have hga := Hga.out
      have hm := big_of hga hm1 hm2
      have hn := big_of hgb hn1 hn2
      obtain ⟨gs0, gs1, _, _⟩ := (goodD_iff m s).1 hga
      obtain ⟨gt0, gt1, _, _⟩ := (goodD_iff n t).1 hgb
      have ha1 := Lib.hid (fun W => ramount_calls m W hm1 hm2)
      have ha2 := Lib.hid (fun W => ramount_calls n W hn1 hn2)
      have ht1 := Lib.hid (fun W v hv => rtens_lev m s v W hv hm gs0 gs1)
      have ht2 := Lib.hid (fun W v hv => rtens_lev n t v W hv hn gt0 gt1)
      have hX : Hid (lev m s < 10 ^ 80) := by show _ < _; have := lev_lt hm gs0; omega
      have hY : Hid (lev n t < 10 ^ 80) := by show _ < _; have := lev_lt hn gt0; omega
      have Hsame : Hid (decide (m < 0) = decide (n < 0) → radd2 m s n t = decOf (decide (m < 0)) (lev m s + lev n t) 18) := fun h => by unfold radd2; rw [if_pos ⟨hga, hgb⟩, decI_same h]
      have Hless : Hid (¬ decide (m < 0) = decide (n < 0) → lev m s < lev n t → radd2 m s n t = decOf (decide (n < 0)) (lev n t - lev m s) 18) := fun h k => by unfold radd2; rw [if_pos ⟨hga, hgb⟩, decI_less h k]
      have Hmore : Hid (¬ decide (m < 0) = decide (n < 0) → ¬ lev m s < lev n t → radd2 m s n t = decOf (decide (m < 0)) (lev m s - lev n t) 18) := fun h k => by unfold radd2; rw [if_pos ⟨hga, hgb⟩, decI_more h k]
      obtain ⟨x, hx⟩ : ∃ x, x = lev m s := ⟨_, rfl⟩
      obtain ⟨y, hy⟩ : ∃ y, y = lev n t := ⟨_, rfl⟩
      rw [← hx] at ht1 hX Hsame Hless Hmore
      rw [← hy] at ht2 hY Hsame Hless Hmore
      have hw1 : IntKind.i64.wrap (18 - s) = 18 - s := IntWalk.i64_in _ (by omega)
      have hw2 : IntKind.i64.wrap (18 - t) = 18 - t := IntWalk.i64_in _ (by omega)
      clear hga hgb Hga hm hn hm1 hm2 hn1 hn2 hx hy
      go_upto_region 3 with (fail)
      refine wp_region_noPanic ?_
      refine wp_region_held_drew (S := fun X => Below w.heap.size w X ∧ DecAt X (w.heap.size) m s ∧ DecAt X (w.heap.size + 1) n t) (by kernel_rfl) ?_ (fun hHeld => ?_)
      · exact ⟨Below.drew kB, DecAt.drew kd2, DecAt.drew kd3⟩
      replace kB := Below.drew kB
      replace kd2 := DecAt.drew kd2
      replace kd3 := DecAt.drew kd3
      replace kd4 := DecAt.drew kd4
      obtain ⟨qw, hcur⟩ : ∃ uu, uu = w2.drew := ⟨_, rfl⟩
      rw [← hcur] at hHeld kB kd2 kd3 kd4 ⊢
      clear hcur
      refine wpAnyH_take (i := 0) (v := ?_) (by simp only [List.getElem?_toArray, List.getElem?_cons_succ, List.getElem?_cons_zero]; rfl) (by kernel_rfl) (by kernel_rfl) (by kernel_rfl) (fun _ _ _ h => h) (Or.inl ⟨by rfl, ?_⟩) hHeld ?_
      rotate_left
      · intro x hSw; first | (go_simp; done) | (go_simp; with_reducible rfl)
      try simp only [Act.put, List.setIfInBounds_toArray, List.set_cons_zero, List.set_cons_succ]
      refine wpAnyH_take (i := 1) (v := ?_) (by simp only [List.getElem?_toArray, List.getElem?_cons_succ, List.getElem?_cons_zero]; rfl) (by kernel_rfl) (by kernel_rfl) (by kernel_rfl) (fun _ _ _ h => h) (Or.inl ⟨by rfl, ?_⟩) hHeld ?_
      rotate_left
      · intro x hSw; (try dsimp only at hSw); obtain ⟨_, hd2, hd3⟩ := hSw; have c0d2 := hd2.c0; have c1d2 := hd2.c1; have c0d3 := hd3.c0; have c1d3 := hd3.c1; first | (go_simp; done) | (go_simp; with_reducible rfl)
      try simp only [Act.put, List.setIfInBounds_toArray, List.set_cons_zero, List.set_cons_succ]
      refine wpAnyH_take (i := 3) (v := ?_) (by simp only [List.getElem?_toArray, List.getElem?_cons_succ, List.getElem?_cons_zero]; rfl) (by kernel_rfl) (by kernel_rfl) (by kernel_rfl) (fun _ _ _ h => h) (Or.inl ⟨by rfl, ?_⟩) hHeld ?_
      rotate_left
      · intro x hSw; first | (go_simp; done) | (go_simp; with_reducible rfl)
      try simp only [Act.put, List.setIfInBounds_toArray, List.set_cons_zero, List.set_cons_succ]
      refine wpAnyH_take (i := 4) (v := ?_) (by simp only [List.getElem?_toArray, List.getElem?_cons_succ, List.getElem?_cons_zero]; rfl) (by kernel_rfl) (by kernel_rfl) (by kernel_rfl) (fun _ _ _ h => h) (Or.inl ⟨by rfl, ?_⟩) hHeld ?_
      rotate_left
      · intro x hSw; (try dsimp only at hSw); obtain ⟨_, hd2, hd3⟩ := hSw; have c0d2 := hd2.c0; have c1d2 := hd2.c1; have c0d3 := hd3.c0; have c1d3 := hd3.c1; first | (go_simp; done) | (go_simp; with_reducible rfl)
      try simp only [Act.put, List.setIfInBounds_toArray, List.set_cons_zero, List.set_cons_succ]
      refine wpAnyH_take (i := 5) (v := ?_) (by simp only [List.getElem?_toArray, List.getElem?_cons_succ, List.getElem?_cons_zero]; rfl) (by kernel_rfl) (by kernel_rfl) (by kernel_rfl) (fun _ _ _ h => h) (Or.inl ⟨by rfl, ?_⟩) hHeld ?_
      rotate_left
      · intro x hSw; first | (go_simp; done) | (go_simp; with_reducible rfl)
      try simp only [Act.put, List.setIfInBounds_toArray, List.set_cons_zero, List.set_cons_succ]
      refine wpAnyH_take (i := 7) (v := ?_) (by simp only [List.getElem?_toArray, List.getElem?_cons_succ, List.getElem?_cons_zero]; rfl) (by kernel_rfl) (by kernel_rfl) (by kernel_rfl) (fun _ _ _ h => h) (Or.inl ⟨by rfl, ?_⟩) hHeld ?_
      rotate_left
      · intro x hSw; first | (go_simp; done) | (go_simp; with_reducible rfl)
      try simp only [Act.put, List.setIfInBounds_toArray, List.set_cons_zero, List.set_cons_succ]
      refine wpAnyH_take (i := 8) (v := ?_) (by simp only [List.getElem?_toArray, List.getElem?_cons_succ, List.getElem?_cons_zero]; rfl) (by kernel_rfl) (by kernel_rfl) (by kernel_rfl) (fun _ _ _ h => h) (Or.inl ⟨by rfl, ?_⟩) hHeld ?_
      rotate_left
      · intro x hSw; (try dsimp only at hSw); obtain ⟨_, hd2, hd3⟩ := hSw; have c0d2 := hd2.c0; have c1d2 := hd2.c1; have c0d3 := hd3.c0; have c1d3 := hd3.c1; first | (go_simp; done) | (go_simp; with_reducible rfl)
      try simp only [Act.put, List.setIfInBounds_toArray, List.set_cons_zero, List.set_cons_succ]
      refine wpAnyH_take (i := 10) (v := ?_) (by simp only [List.getElem?_toArray, List.getElem?_cons_succ, List.getElem?_cons_zero]; rfl) (by kernel_rfl) (by kernel_rfl) (by kernel_rfl) (fun _ _ _ h => h) (Or.inl ⟨by rfl, ?_⟩) hHeld ?_
      rotate_left
      · intro x hSw; first | (go_simp; done) | (go_simp; with_reducible rfl)
      try simp only [Act.put, List.setIfInBounds_toArray, List.set_cons_zero, List.set_cons_succ]
      refine wpAnyH_take (i := 11) (v := ?_) (by simp only [List.getElem?_toArray, List.getElem?_cons_succ, List.getElem?_cons_zero]; rfl) (by kernel_rfl) (by kernel_rfl) (by kernel_rfl) (fun _ _ _ h => h) (Or.inl ⟨by rfl, ?_⟩) hHeld ?_
      rotate_left
      · intro x hSw; (try dsimp only at hSw); obtain ⟨_, hd2, hd3⟩ := hSw; have c0d2 := hd2.c0; have c1d2 := hd2.c1; have c0d3 := hd3.c0; have c1d3 := hd3.c1; first | (go_simp; done) | (go_simp; with_reducible rfl)
      try simp only [Act.put, List.setIfInBounds_toArray, List.set_cons_zero, List.set_cons_succ]
      refine wpAnyH_take (i := 12) (v := ?_) (by simp only [List.getElem?_toArray, List.getElem?_cons_succ, List.getElem?_cons_zero]; rfl) (by kernel_rfl) (by kernel_rfl) (by kernel_rfl) (fun _ _ _ h => h) (Or.inl ⟨by rfl, ?_⟩) hHeld ?_
      rotate_left
      · intro x hSw; first | (go_simp; done) | (go_simp; with_reducible rfl)
      try simp only [Act.put, List.setIfInBounds_toArray, List.set_cons_zero, List.set_cons_succ]
      refine wpAnyH_ready (rs := [2]) (by kernel_rfl) (by simp) ?_
      refine AllReadyH.cons (by simp only [List.getElem?_toArray, List.getElem?_cons_succ, List.getElem?_cons_zero]; rfl) (fun K hK => ?_) AllReadyH.nil
      try go_simp
      refine (ha1.out _).mono ?_; rintro e wq1 ⟨va1, rfl, kxa1, q1⟩
      replace kB := kB.trans (q1.mono kB.size)
      replace kd2 := kd2.below q1
      replace kd3 := kd3.below q1
      replace kd4 := kd4.below q1
      clear q1
      try go_wp2_with fail
      refine hK.out _ _ ?_ (fun hHeld => ?_)
      · exact ⟨kB, kd2, kd3⟩
      clear hK K
      try simp only [Act.put, List.setIfInBounds_toArray, List.set_cons_zero, List.set_cons_succ]
      refine wpAnyH_ready (rs := [6]) (by kernel_rfl) (by simp) ?_
      refine AllReadyH.cons (by simp only [List.getElem?_toArray, List.getElem?_cons_succ, List.getElem?_cons_zero]; rfl) (fun K hK => ?_) AllReadyH.nil
      try go_simp
      refine (ht1.out _ _ kxa1).mono ?_; rintro e wq2 ⟨vtx, rfl, kxtx, q2⟩
      replace kxa1 := kxa1.below q2
      replace kB := kB.trans (q2.mono kB.size)
      replace kd2 := kd2.below q2
      replace kd3 := kd3.below q2
      replace kd4 := kd4.below q2
      clear q2
      try go_wp2_with fail
      refine hK.out _ _ ?_ (fun hHeld => ?_)
      · exact ⟨kB, kd2, kd3⟩
      clear hK K
      try simp only [Act.put, List.setIfInBounds_toArray, List.set_cons_zero, List.set_cons_succ]
      refine wpAnyH_ready (rs := [9]) (by kernel_rfl) (by simp) ?_
      refine AllReadyH.cons (by simp only [List.getElem?_toArray, List.getElem?_cons_succ, List.getElem?_cons_zero]; rfl) (fun K hK => ?_) AllReadyH.nil
      try go_simp
      refine (ha2.out _).mono ?_; rintro e wq3 ⟨va2, rfl, kxa2, q3⟩
      replace kxa1 := kxa1.below q3
      replace kxtx := kxtx.below q3
      replace kB := kB.trans (q3.mono kB.size)
      replace kd2 := kd2.below q3
      replace kd3 := kd3.below q3
      replace kd4 := kd4.below q3
      clear q3
      try go_wp2_with fail
      refine hK.out _ _ ?_ (fun hHeld => ?_)
      · exact ⟨kB, kd2, kd3⟩
      clear hK K
      try simp only [Act.put, List.setIfInBounds_toArray, List.set_cons_zero, List.set_cons_succ]
      refine wpAnyH_ready (rs := [13]) (by kernel_rfl) (by simp) ?_
      refine AllReadyH.cons (by simp only [List.getElem?_toArray, List.getElem?_cons_succ, List.getElem?_cons_zero]; rfl) (fun K hK => ?_) AllReadyH.nil
      try go_simp
      refine (ht2.out _ _ kxa2).mono ?_; rintro e wq4 ⟨vty, rfl, kxty, q4⟩
      replace kxa1 := kxa1.below q4
      replace kxtx := kxtx.below q4
      replace kxa2 := kxa2.below q4
      replace kB := kB.trans (q4.mono kB.size)
      replace kd2 := kd2.below q4
      replace kd3 := kd3.below q4
      replace kd4 := kd4.below q4
      clear q4
      try go_wp2_with fail
      refine hK.out _ _ ?_ (fun hHeld => ?_)
      · exact ⟨kB, kd2, kd3⟩
      clear hK K
      try simp only [Act.put, List.setIfInBounds_toArray, List.set_cons_zero, List.set_cons_succ]
      refine wpAnyH_take (i := 14) (v := ?_) (by simp only [List.getElem?_toArray, List.getElem?_cons_succ, List.getElem?_cons_zero]; rfl) (by kernel_rfl) (by kernel_rfl) (by kernel_rfl) (fun _ _ _ h => h) (Or.inl ⟨by rfl, ?_⟩) hHeld ?_
      rotate_left
      · intro x hSw; first | (go_simp; done) | (go_simp; with_reducible rfl)
      try simp only [Act.put, List.setIfInBounds_toArray, List.set_cons_zero, List.set_cons_succ]
      refine wpAnyH_take (i := 15) (v := ?_) (by simp only [List.getElem?_toArray, List.getElem?_cons_succ, List.getElem?_cons_zero]; rfl) (by kernel_rfl) (by kernel_rfl) (by kernel_rfl) (fun _ _ _ h => h) (Or.inl ⟨by rfl, ?_⟩) hHeld ?_
      rotate_left
      · intro x hSw; first | (go_simp; done) | (go_simp; with_reducible rfl)
      try simp only [Act.put, List.setIfInBounds_toArray, List.set_cons_zero, List.set_cons_succ]
      refine wpAnyH_done (by kernel_rfl) ?_ _
      refine NoPanic.normal ?_
      clear kxa1 kxa2 ha1 ha2 ht1 ht2
      by_cases hm0 : m < 0
      · have dm : decide (m < 0) = true := by simpa using hm0
        by_cases hn0 : n < 0
        · have dn : decide (n < 0) = true := by simpa using hn0
          have hres0 := Hsame.out (by rw [dm, dn])
          rw [dm] at hres0
          have hdc := Lib.hid (fun W v hv => rdec_of true (x + y) v 18 W hv (by omega) (by omega))
          obtain ⟨a, b, c, hab⟩ := normV_form (decOf true (x + y) 18)
          have hres : Hid (normV (radd2 m s n t) = .tuple #[dv2 a b, .bool c]) := by show _ = _; rw [hres0, hab]
          rw [hab] at hdc
          clear hres0 hab
          clear Hsame Hless Hmore
          have c0d2 := kd2.c0; have c1d2 := kd2.c1; have c0d3 := kd3.c0; have c1d3 := kd3.c1
          go_upto_region 5 with (fail)
          clear c0d2 c1d2 c0d3 c1d3
          refine wp_region_noPanic ?_
          refine wp_region_held_drew (S := fun X => Below w.heap.size w X ∧ DecAt X (w.heap.size) m s ∧ DecAt X (w.heap.size + 1) n t) (by kernel_rfl) ?_ (fun hHeld => ?_)
          · exact ⟨Below.drew kB, DecAt.drew kd2, DecAt.drew kd3⟩
          replace kB := Below.drew kB
          replace kd2 := DecAt.drew kd2
          replace kd3 := DecAt.drew kd3
          replace kd4 := DecAt.drew kd4
          replace kxtx := DR.drew kxtx
          replace kxty := DR.drew kxty
          obtain ⟨qw, hcur⟩ : ∃ uu, uu = wq4.drew := ⟨_, rfl⟩
          rw [← hcur] at hHeld kB kd2 kd3 kd4 kxtx kxty ⊢
          clear hcur
          refine wpAnyH_take (i := 0) (v := ?_) (by simp only [List.getElem?_toArray, List.getElem?_cons_succ, List.getElem?_cons_zero]; rfl) (by kernel_rfl) (by kernel_rfl) (by kernel_rfl) (fun _ _ _ h => h) (Or.inl ⟨by rfl, ?_⟩) hHeld ?_
          rotate_left
          · intro x hSw; first | (go_simp; done) | (go_simp; with_reducible rfl)
          try simp only [Act.put, List.setIfInBounds_toArray, List.set_cons_zero, List.set_cons_succ]
          refine wpAnyH_take (i := 1) (v := ?_) (by simp only [List.getElem?_toArray, List.getElem?_cons_succ, List.getElem?_cons_zero]; rfl) (by kernel_rfl) (by kernel_rfl) (by kernel_rfl) (fun _ _ _ h => h) (Or.inl ⟨by rfl, ?_⟩) hHeld ?_
          rotate_left
          · intro x hSw; (try dsimp only at hSw); obtain ⟨_, hd2, hd3⟩ := hSw; have c0d2 := hd2.c0; have c1d2 := hd2.c1; have c0d3 := hd3.c0; have c1d3 := hd3.c1; first | (go_simp; done) | (go_simp; with_reducible rfl)
          try simp only [Act.put, List.setIfInBounds_toArray, List.set_cons_zero, List.set_cons_succ]
          refine wpAnyH_take (i := 2) (v := ?_) (by simp only [List.getElem?_toArray, List.getElem?_cons_succ, List.getElem?_cons_zero]; rfl) (by kernel_rfl) (by kernel_rfl) (by kernel_rfl) (fun _ _ _ h => h) (Or.inl ⟨by rfl, ?_⟩) hHeld ?_
          rotate_left
          · intro x hSw; first | (go_simp; done) | (go_simp; with_reducible rfl)
          try simp only [Act.put, List.setIfInBounds_toArray, List.set_cons_zero, List.set_cons_succ]
          refine wpAnyH_take (i := 3) (v := ?_) (by simp only [List.getElem?_toArray, List.getElem?_cons_succ, List.getElem?_cons_zero]; rfl) (by kernel_rfl) (by kernel_rfl) (by kernel_rfl) (fun _ _ _ h => h) (Or.inl ⟨by rfl, ?_⟩) hHeld ?_
          rotate_left
          · intro x hSw; first | (go_simp; done) | (go_simp; with_reducible rfl)
          try simp only [Act.put, List.setIfInBounds_toArray, List.set_cons_zero, List.set_cons_succ]
          refine wpAnyH_take (i := 4) (v := ?_) (by simp only [List.getElem?_toArray, List.getElem?_cons_succ, List.getElem?_cons_zero]; rfl) (by kernel_rfl) (by kernel_rfl) (by kernel_rfl) (fun _ _ _ h => h) (Or.inl ⟨by rfl, ?_⟩) hHeld ?_
          rotate_left
          · intro x hSw; first | (go_simp; done) | (go_simp; with_reducible rfl)
          try simp only [Act.put, List.setIfInBounds_toArray, List.set_cons_zero, List.set_cons_succ]
          refine wpAnyH_ready (rs := [5]) (by kernel_rfl) (by simp) ?_
          refine AllReadyH.cons (by simp only [List.getElem?_toArray, List.getElem?_cons_succ, List.getElem?_cons_zero]; rfl) (fun K hK => ?_) AllReadyH.nil
          try go_simp
          refine (rplus_calls x y vtx vty _ kxtx kxty hX.out hY.out).mono ?_; rintro e wq1 ⟨vp, rfl, kxp, q1⟩
          replace kxtx := kxtx.below q1
          replace kxty := kxty.below q1
          replace kB := kB.trans (q1.mono kB.size)
          replace kd2 := kd2.below q1
          replace kd3 := kd3.below q1
          replace kd4 := kd4.below q1
          clear q1
          try go_wp2_with fail
          refine hK.out _ _ ?_ (fun hHeld => ?_)
          · exact ⟨kB, kd2, kd3⟩
          clear hK K
          try simp only [Act.put, List.setIfInBounds_toArray, List.set_cons_zero, List.set_cons_succ]
          refine wpAnyH_ready (rs := [6]) (by kernel_rfl) (by simp) ?_
          refine AllReadyH.cons (by simp only [List.getElem?_toArray, List.getElem?_cons_succ, List.getElem?_cons_zero]; rfl) (fun K hK => ?_) AllReadyH.nil
          try go_simp
          refine (hdc.out _ _ kxp).mono ?_; rintro e wq2 ⟨rfl, q2⟩
          replace kxtx := kxtx.below q2
          replace kxty := kxty.below q2
          replace kxp := kxp.below q2
          replace kB := kB.trans (q2.mono kB.size)
          replace kd2 := kd2.below q2
          replace kd3 := kd3.below q2
          replace kd4 := kd4.below q2
          clear q2
          try go_wp2_with fail
          refine hK.out _ _ ?_ (fun hHeld => ?_)
          · exact ⟨kB, kd2, kd3⟩
          clear hK K
          try simp only [Act.put, List.setIfInBounds_toArray, List.set_cons_zero, List.set_cons_succ]
          refine wpAnyH_take (i := 7) (v := ?_) (by simp only [List.getElem?_toArray, List.getElem?_cons_succ, List.getElem?_cons_zero]; rfl) (by kernel_rfl) (by kernel_rfl) (by kernel_rfl) (fun _ _ _ h => h) (Or.inl ⟨by rfl, ?_⟩) hHeld ?_
          rotate_left
          · intro x hSw; first | (go_simp; done) | (go_simp; with_reducible rfl)
          try simp only [Act.put, List.setIfInBounds_toArray, List.set_cons_zero, List.set_cons_succ]
          refine wpAnyH_take (i := 8) (v := ?_) (by simp only [List.getElem?_toArray, List.getElem?_cons_succ, List.getElem?_cons_zero]; rfl) (by kernel_rfl) (by kernel_rfl) (by kernel_rfl) (fun _ _ _ h => h) (Or.inl ⟨by rfl, ?_⟩) hHeld ?_
          rotate_left
          · intro x hSw; first | (go_simp; done) | (go_simp; with_reducible rfl)
          try simp only [Act.put, List.setIfInBounds_toArray, List.set_cons_zero, List.set_cons_succ]
          refine wpAnyH_ready (rs := [9]) (by kernel_rfl) (by simp) ?_
          refine AllReadyH.cons (by simp only [List.getElem?_toArray, List.getElem?_cons_succ, List.getElem?_cons_zero]; rfl) (fun K hK => ?_) AllReadyH.nil
          have sc0 := kd4.c0; have sc1 := kd4.c1; have sf0 := kd4.f0; have sf1 := kd4.f1
          go_simp
          clear sc0 sc1 sf0 sf1
          replace kB := below_put (g := (w.heap.size + 2)) kB (by omega) (a) (b)
          replace kd2 := kd2.putOther (g := (w.heap.size + 2)) (by omega) (a) (b)
          replace kd3 := kd3.putOther (g := (w.heap.size + 2)) (by omega) (a) (b)
          replace kd4 := kd4.put (a) (b)
          clear kxtx kxty kxp
          unfold putDec at kB kd2 kd3 kd4
          refine hK.out _ _ ?_ (fun hHeld => ?_)
          · exact ⟨kB, kd2, kd3⟩
          clear hK K
          try simp only [Act.put, List.setIfInBounds_toArray, List.set_cons_zero, List.set_cons_succ]
          refine wpAnyH_take (i := 10) (v := ?_) (by simp only [List.getElem?_toArray, List.getElem?_cons_succ, List.getElem?_cons_zero]; rfl) (by kernel_rfl) (by kernel_rfl) (by kernel_rfl) (fun _ _ _ h => h) (Or.inl ⟨by rfl, ?_⟩) hHeld ?_
          rotate_left
          · intro x hSw; first | (go_simp; done) | (go_simp; with_reducible rfl)
          try simp only [Act.put, List.setIfInBounds_toArray, List.set_cons_zero, List.set_cons_succ]
          refine wpAnyH_done (by kernel_rfl) ?_ _
          refine NoPanic.normal ?_
          have sc0 := kd4.c0
          have sc1 := kd4.c1
          try go_wp2_with fail
          refine bodyPost_ret (v := .tuple #[dv2 a b, .bool c]) (by simp [results, Try.results24, go_sem, sc0, sc1]) rfl ⟨by rw [hres.out], kB⟩
        · have dn : decide (n < 0) = false := by simpa using hn0
          by_cases hxy : x < y
          · have hres0 := Hless.out (by rw [dm, dn]; decide) hxy
            rw [dn] at hres0
            have hdc := Lib.hid (fun W v hv => rdec_of false (y - x) v 18 W hv (by omega) (by omega))
            obtain ⟨a, b, c, hab⟩ := normV_form (decOf false (y - x) 18)
            have hres : Hid (normV (radd2 m s n t) = .tuple #[dv2 a b, .bool c]) := by show _ = _; rw [hres0, hab]
            rw [hab] at hdc
            clear hres0 hab
            have hxy2 := Lib.hid (Nat.le_of_lt hxy)
            have hc := Lib.hid (fun W hv hu => rcompare_lt hxy vtx vty W hv hu)
            clear Hsame Hless Hmore hxy
            have c0d2 := kd2.c0; have c1d2 := kd2.c1; have c0d3 := kd3.c0; have c1d3 := kd3.c1
            go_wp2_with fail
            clear c0d2 c1d2 c0d3 c1d3
            refine (hc.out _ kxtx kxty).mono ?_; rintro e w6 ⟨rfl, b6⟩
            replace kxtx := kxtx.below b6
            replace kxty := kxty.below b6
            replace kB := kB.trans (b6.mono kB.size)
            replace kd2 := kd2.below b6
            replace kd3 := kd3.below b6
            replace kd4 := kd4.below b6
            clear b6 hc
            have c0d2 := kd2.c0; have c1d2 := kd2.c1; have c0d3 := kd3.c0; have c1d3 := kd3.c1
            go_upto_region 8 with (fail)
            clear c0d2 c1d2 c0d3 c1d3
            refine wp_region_noPanic ?_
            refine wp_region_held_drew (S := fun X => Below w.heap.size w X ∧ DecAt X (w.heap.size) m s ∧ DecAt X (w.heap.size + 1) n t) (by kernel_rfl) ?_ (fun hHeld => ?_)
            · exact ⟨Below.drew kB, DecAt.drew kd2, DecAt.drew kd3⟩
            replace kB := Below.drew kB
            replace kd2 := DecAt.drew kd2
            replace kd3 := DecAt.drew kd3
            replace kd4 := DecAt.drew kd4
            replace kxtx := DR.drew kxtx
            replace kxty := DR.drew kxty
            obtain ⟨qw, hcur⟩ : ∃ uu, uu = w6.drew := ⟨_, rfl⟩
            rw [← hcur] at hHeld kB kd2 kd3 kd4 kxtx kxty ⊢
            clear hcur
            refine wpAnyH_take (i := 0) (v := ?_) (by simp only [List.getElem?_toArray, List.getElem?_cons_succ, List.getElem?_cons_zero]; rfl) (by kernel_rfl) (by kernel_rfl) (by kernel_rfl) (fun _ _ _ h => h) (Or.inl ⟨by rfl, ?_⟩) hHeld ?_
            rotate_left
            · intro x hSw; first | (go_simp; done) | (go_simp; with_reducible rfl)
            try simp only [Act.put, List.setIfInBounds_toArray, List.set_cons_zero, List.set_cons_succ]
            refine wpAnyH_take (i := 1) (v := ?_) (by simp only [List.getElem?_toArray, List.getElem?_cons_succ, List.getElem?_cons_zero]; rfl) (by kernel_rfl) (by kernel_rfl) (by kernel_rfl) (fun _ _ _ h => h) (Or.inl ⟨by rfl, ?_⟩) hHeld ?_
            rotate_left
            · intro x hSw; (try dsimp only at hSw); obtain ⟨_, hd2, hd3⟩ := hSw; have c0d2 := hd2.c0; have c1d2 := hd2.c1; have c0d3 := hd3.c0; have c1d3 := hd3.c1; first | (go_simp; done) | (go_simp; with_reducible rfl)
            try simp only [Act.put, List.setIfInBounds_toArray, List.set_cons_zero, List.set_cons_succ]
            refine wpAnyH_take (i := 2) (v := ?_) (by simp only [List.getElem?_toArray, List.getElem?_cons_succ, List.getElem?_cons_zero]; rfl) (by kernel_rfl) (by kernel_rfl) (by kernel_rfl) (fun _ _ _ h => h) (Or.inl ⟨by rfl, ?_⟩) hHeld ?_
            rotate_left
            · intro x hSw; first | (go_simp; done) | (go_simp; with_reducible rfl)
            try simp only [Act.put, List.setIfInBounds_toArray, List.set_cons_zero, List.set_cons_succ]
            refine wpAnyH_take (i := 3) (v := ?_) (by simp only [List.getElem?_toArray, List.getElem?_cons_succ, List.getElem?_cons_zero]; rfl) (by kernel_rfl) (by kernel_rfl) (by kernel_rfl) (fun _ _ _ h => h) (Or.inl ⟨by rfl, ?_⟩) hHeld ?_
            rotate_left
            · intro x hSw; first | (go_simp; done) | (go_simp; with_reducible rfl)
            try simp only [Act.put, List.setIfInBounds_toArray, List.set_cons_zero, List.set_cons_succ]
            refine wpAnyH_take (i := 4) (v := ?_) (by simp only [List.getElem?_toArray, List.getElem?_cons_succ, List.getElem?_cons_zero]; rfl) (by kernel_rfl) (by kernel_rfl) (by kernel_rfl) (fun _ _ _ h => h) (Or.inl ⟨by rfl, ?_⟩) hHeld ?_
            rotate_left
            · intro x hSw; first | (go_simp; done) | (go_simp; with_reducible rfl)
            try simp only [Act.put, List.setIfInBounds_toArray, List.set_cons_zero, List.set_cons_succ]
            refine wpAnyH_ready (rs := [5]) (by kernel_rfl) (by simp) ?_
            refine AllReadyH.cons (by simp only [List.getElem?_toArray, List.getElem?_cons_succ, List.getElem?_cons_zero]; rfl) (fun K hK => ?_) AllReadyH.nil
            try go_simp
            refine (rminus_calls y x vty vtx _ kxty kxtx hY.out hxy2.out).mono ?_; rintro e wq1 ⟨vp, rfl, kxp, q1⟩
            replace kxtx := kxtx.below q1
            replace kxty := kxty.below q1
            replace kB := kB.trans (q1.mono kB.size)
            replace kd2 := kd2.below q1
            replace kd3 := kd3.below q1
            replace kd4 := kd4.below q1
            clear q1
            try go_wp2_with fail
            refine hK.out _ _ ?_ (fun hHeld => ?_)
            · exact ⟨kB, kd2, kd3⟩
            clear hK K
            try simp only [Act.put, List.setIfInBounds_toArray, List.set_cons_zero, List.set_cons_succ]
            refine wpAnyH_ready (rs := [6]) (by kernel_rfl) (by simp) ?_
            refine AllReadyH.cons (by simp only [List.getElem?_toArray, List.getElem?_cons_succ, List.getElem?_cons_zero]; rfl) (fun K hK => ?_) AllReadyH.nil
            try go_simp
            refine (hdc.out _ _ kxp).mono ?_; rintro e wq2 ⟨rfl, q2⟩
            replace kxtx := kxtx.below q2
            replace kxty := kxty.below q2
            replace kxp := kxp.below q2
            replace kB := kB.trans (q2.mono kB.size)
            replace kd2 := kd2.below q2
            replace kd3 := kd3.below q2
            replace kd4 := kd4.below q2
            clear q2
            try go_wp2_with fail
            refine hK.out _ _ ?_ (fun hHeld => ?_)
            · exact ⟨kB, kd2, kd3⟩
            clear hK K
            try simp only [Act.put, List.setIfInBounds_toArray, List.set_cons_zero, List.set_cons_succ]
            refine wpAnyH_take (i := 7) (v := ?_) (by simp only [List.getElem?_toArray, List.getElem?_cons_succ, List.getElem?_cons_zero]; rfl) (by kernel_rfl) (by kernel_rfl) (by kernel_rfl) (fun _ _ _ h => h) (Or.inl ⟨by rfl, ?_⟩) hHeld ?_
            rotate_left
            · intro x hSw; first | (go_simp; done) | (go_simp; with_reducible rfl)
            try simp only [Act.put, List.setIfInBounds_toArray, List.set_cons_zero, List.set_cons_succ]
            refine wpAnyH_take (i := 8) (v := ?_) (by simp only [List.getElem?_toArray, List.getElem?_cons_succ, List.getElem?_cons_zero]; rfl) (by kernel_rfl) (by kernel_rfl) (by kernel_rfl) (fun _ _ _ h => h) (Or.inl ⟨by rfl, ?_⟩) hHeld ?_
            rotate_left
            · intro x hSw; first | (go_simp; done) | (go_simp; with_reducible rfl)
            try simp only [Act.put, List.setIfInBounds_toArray, List.set_cons_zero, List.set_cons_succ]
            refine wpAnyH_ready (rs := [9]) (by kernel_rfl) (by simp) ?_
            refine AllReadyH.cons (by simp only [List.getElem?_toArray, List.getElem?_cons_succ, List.getElem?_cons_zero]; rfl) (fun K hK => ?_) AllReadyH.nil
            have sc0 := kd4.c0; have sc1 := kd4.c1; have sf0 := kd4.f0; have sf1 := kd4.f1
            go_simp
            clear sc0 sc1 sf0 sf1
            replace kB := below_put (g := (w.heap.size + 2)) kB (by omega) (a) (b)
            replace kd2 := kd2.putOther (g := (w.heap.size + 2)) (by omega) (a) (b)
            replace kd3 := kd3.putOther (g := (w.heap.size + 2)) (by omega) (a) (b)
            replace kd4 := kd4.put (a) (b)
            clear kxtx kxty kxp
            unfold putDec at kB kd2 kd3 kd4
            refine hK.out _ _ ?_ (fun hHeld => ?_)
            · exact ⟨kB, kd2, kd3⟩
            clear hK K
            try simp only [Act.put, List.setIfInBounds_toArray, List.set_cons_zero, List.set_cons_succ]
            refine wpAnyH_take (i := 10) (v := ?_) (by simp only [List.getElem?_toArray, List.getElem?_cons_succ, List.getElem?_cons_zero]; rfl) (by kernel_rfl) (by kernel_rfl) (by kernel_rfl) (fun _ _ _ h => h) (Or.inl ⟨by rfl, ?_⟩) hHeld ?_
            rotate_left
            · intro x hSw; first | (go_simp; done) | (go_simp; with_reducible rfl)
            try simp only [Act.put, List.setIfInBounds_toArray, List.set_cons_zero, List.set_cons_succ]
            refine wpAnyH_done (by kernel_rfl) ?_ _
            refine NoPanic.normal ?_
            have sc0 := kd4.c0
            have sc1 := kd4.c1
            try go_wp2_with fail
            refine bodyPost_ret (v := .tuple #[dv2 a b, .bool c]) (by simp [results, Try.results24, go_sem, sc0, sc1]) rfl ⟨by rw [hres.out], kB⟩
          · have hres0 := Hmore.out (by rw [dm, dn]; decide) hxy
            rw [dm] at hres0
            have hdc := Lib.hid (fun W v hv => rdec_of true (x - y) v 18 W hv (by omega) (by omega))
            obtain ⟨a, b, c, hab⟩ := normV_form (decOf true (x - y) 18)
            have hres : Hid (normV (radd2 m s n t) = .tuple #[dv2 a b, .bool c]) := by show _ = _; rw [hres0, hab]
            rw [hab] at hdc
            clear hres0 hab
            have hxy2 := Lib.hid (Nat.le_of_not_lt hxy)
            obtain ⟨kk, hk0, hcc⟩ := rcompare_ge hxy
            have hc := Lib.hid (fun W hv hu => hcc vtx vty W hv hu)
            clear Hsame Hless Hmore hxy hcc
            have c0d2 := kd2.c0; have c1d2 := kd2.c1; have c0d3 := kd3.c0; have c1d3 := kd3.c1
            go_wp2_with fail
            clear c0d2 c1d2 c0d3 c1d3
            refine (hc.out _ kxtx kxty).mono ?_; rintro e w6 ⟨rfl, b6⟩
            replace kxtx := kxtx.below b6
            replace kxty := kxty.below b6
            replace kB := kB.trans (b6.mono kB.size)
            replace kd2 := kd2.below b6
            replace kd3 := kd3.below b6
            replace kd4 := kd4.below b6
            clear b6 hc
            have c0d2 := kd2.c0; have c1d2 := kd2.c1; have c0d3 := kd3.c0; have c1d3 := kd3.c1
            go_upto_region 7 with (fail)
            clear c0d2 c1d2 c0d3 c1d3
            refine wp_region_noPanic ?_
            refine wp_region_held_drew (S := fun X => Below w.heap.size w X ∧ DecAt X (w.heap.size) m s ∧ DecAt X (w.heap.size + 1) n t) (by kernel_rfl) ?_ (fun hHeld => ?_)
            · exact ⟨Below.drew kB, DecAt.drew kd2, DecAt.drew kd3⟩
            replace kB := Below.drew kB
            replace kd2 := DecAt.drew kd2
            replace kd3 := DecAt.drew kd3
            replace kd4 := DecAt.drew kd4
            replace kxtx := DR.drew kxtx
            replace kxty := DR.drew kxty
            obtain ⟨qw, hcur⟩ : ∃ uu, uu = w6.drew := ⟨_, rfl⟩
            rw [← hcur] at hHeld kB kd2 kd3 kd4 kxtx kxty ⊢
            clear hcur
            refine wpAnyH_take (i := 0) (v := ?_) (by simp only [List.getElem?_toArray, List.getElem?_cons_succ, List.getElem?_cons_zero]; rfl) (by kernel_rfl) (by kernel_rfl) (by kernel_rfl) (fun _ _ _ h => h) (Or.inl ⟨by rfl, ?_⟩) hHeld ?_
            rotate_left
            · intro x hSw; first | (go_simp; done) | (go_simp; with_reducible rfl)
            try simp only [Act.put, List.setIfInBounds_toArray, List.set_cons_zero, List.set_cons_succ]
            refine wpAnyH_take (i := 1) (v := ?_) (by simp only [List.getElem?_toArray, List.getElem?_cons_succ, List.getElem?_cons_zero]; rfl) (by kernel_rfl) (by kernel_rfl) (by kernel_rfl) (fun _ _ _ h => h) (Or.inl ⟨by rfl, ?_⟩) hHeld ?_
            rotate_left
            · intro x hSw; (try dsimp only at hSw); obtain ⟨_, hd2, hd3⟩ := hSw; have c0d2 := hd2.c0; have c1d2 := hd2.c1; have c0d3 := hd3.c0; have c1d3 := hd3.c1; first | (go_simp; done) | (go_simp; with_reducible rfl)
            try simp only [Act.put, List.setIfInBounds_toArray, List.set_cons_zero, List.set_cons_succ]
            refine wpAnyH_take (i := 2) (v := ?_) (by simp only [List.getElem?_toArray, List.getElem?_cons_succ, List.getElem?_cons_zero]; rfl) (by kernel_rfl) (by kernel_rfl) (by kernel_rfl) (fun _ _ _ h => h) (Or.inl ⟨by rfl, ?_⟩) hHeld ?_
            rotate_left
            · intro x hSw; first | (go_simp; done) | (go_simp; with_reducible rfl)
            try simp only [Act.put, List.setIfInBounds_toArray, List.set_cons_zero, List.set_cons_succ]
            refine wpAnyH_take (i := 3) (v := ?_) (by simp only [List.getElem?_toArray, List.getElem?_cons_succ, List.getElem?_cons_zero]; rfl) (by kernel_rfl) (by kernel_rfl) (by kernel_rfl) (fun _ _ _ h => h) (Or.inl ⟨by rfl, ?_⟩) hHeld ?_
            rotate_left
            · intro x hSw; first | (go_simp; done) | (go_simp; with_reducible rfl)
            try simp only [Act.put, List.setIfInBounds_toArray, List.set_cons_zero, List.set_cons_succ]
            refine wpAnyH_take (i := 4) (v := ?_) (by simp only [List.getElem?_toArray, List.getElem?_cons_succ, List.getElem?_cons_zero]; rfl) (by kernel_rfl) (by kernel_rfl) (by kernel_rfl) (fun _ _ _ h => h) (Or.inl ⟨by rfl, ?_⟩) hHeld ?_
            rotate_left
            · intro x hSw; first | (go_simp; done) | (go_simp; with_reducible rfl)
            try simp only [Act.put, List.setIfInBounds_toArray, List.set_cons_zero, List.set_cons_succ]
            refine wpAnyH_ready (rs := [5]) (by kernel_rfl) (by simp) ?_
            refine AllReadyH.cons (by simp only [List.getElem?_toArray, List.getElem?_cons_succ, List.getElem?_cons_zero]; rfl) (fun K hK => ?_) AllReadyH.nil
            try go_simp
            refine (rminus_calls x y vtx vty _ kxtx kxty hX.out hxy2.out).mono ?_; rintro e wq1 ⟨vp, rfl, kxp, q1⟩
            replace kxtx := kxtx.below q1
            replace kxty := kxty.below q1
            replace kB := kB.trans (q1.mono kB.size)
            replace kd2 := kd2.below q1
            replace kd3 := kd3.below q1
            replace kd4 := kd4.below q1
            clear q1
            try go_wp2_with fail
            refine hK.out _ _ ?_ (fun hHeld => ?_)
            · exact ⟨kB, kd2, kd3⟩
            clear hK K
            try simp only [Act.put, List.setIfInBounds_toArray, List.set_cons_zero, List.set_cons_succ]
            refine wpAnyH_ready (rs := [6]) (by kernel_rfl) (by simp) ?_
            refine AllReadyH.cons (by simp only [List.getElem?_toArray, List.getElem?_cons_succ, List.getElem?_cons_zero]; rfl) (fun K hK => ?_) AllReadyH.nil
            try go_simp
            refine (hdc.out _ _ kxp).mono ?_; rintro e wq2 ⟨rfl, q2⟩
            replace kxtx := kxtx.below q2
            replace kxty := kxty.below q2
            replace kxp := kxp.below q2
            replace kB := kB.trans (q2.mono kB.size)
            replace kd2 := kd2.below q2
            replace kd3 := kd3.below q2
            replace kd4 := kd4.below q2
            clear q2
            try go_wp2_with fail
            refine hK.out _ _ ?_ (fun hHeld => ?_)
            · exact ⟨kB, kd2, kd3⟩
            clear hK K
            try simp only [Act.put, List.setIfInBounds_toArray, List.set_cons_zero, List.set_cons_succ]
            refine wpAnyH_take (i := 7) (v := ?_) (by simp only [List.getElem?_toArray, List.getElem?_cons_succ, List.getElem?_cons_zero]; rfl) (by kernel_rfl) (by kernel_rfl) (by kernel_rfl) (fun _ _ _ h => h) (Or.inl ⟨by rfl, ?_⟩) hHeld ?_
            rotate_left
            · intro x hSw; first | (go_simp; done) | (go_simp; with_reducible rfl)
            try simp only [Act.put, List.setIfInBounds_toArray, List.set_cons_zero, List.set_cons_succ]
            refine wpAnyH_take (i := 8) (v := ?_) (by simp only [List.getElem?_toArray, List.getElem?_cons_succ, List.getElem?_cons_zero]; rfl) (by kernel_rfl) (by kernel_rfl) (by kernel_rfl) (fun _ _ _ h => h) (Or.inl ⟨by rfl, ?_⟩) hHeld ?_
            rotate_left
            · intro x hSw; first | (go_simp; done) | (go_simp; with_reducible rfl)
            try simp only [Act.put, List.setIfInBounds_toArray, List.set_cons_zero, List.set_cons_succ]
            refine wpAnyH_ready (rs := [9]) (by kernel_rfl) (by simp) ?_
            refine AllReadyH.cons (by simp only [List.getElem?_toArray, List.getElem?_cons_succ, List.getElem?_cons_zero]; rfl) (fun K hK => ?_) AllReadyH.nil
            have sc0 := kd4.c0; have sc1 := kd4.c1; have sf0 := kd4.f0; have sf1 := kd4.f1
            go_simp
            clear sc0 sc1 sf0 sf1
            replace kB := below_put (g := (w.heap.size + 2)) kB (by omega) (a) (b)
            replace kd2 := kd2.putOther (g := (w.heap.size + 2)) (by omega) (a) (b)
            replace kd3 := kd3.putOther (g := (w.heap.size + 2)) (by omega) (a) (b)
            replace kd4 := kd4.put (a) (b)
            clear kxtx kxty kxp
            unfold putDec at kB kd2 kd3 kd4
            refine hK.out _ _ ?_ (fun hHeld => ?_)
            · exact ⟨kB, kd2, kd3⟩
            clear hK K
            try simp only [Act.put, List.setIfInBounds_toArray, List.set_cons_zero, List.set_cons_succ]
            refine wpAnyH_take (i := 10) (v := ?_) (by simp only [List.getElem?_toArray, List.getElem?_cons_succ, List.getElem?_cons_zero]; rfl) (by kernel_rfl) (by kernel_rfl) (by kernel_rfl) (fun _ _ _ h => h) (Or.inl ⟨by rfl, ?_⟩) hHeld ?_
            rotate_left
            · intro x hSw; first | (go_simp; done) | (go_simp; with_reducible rfl)
            try simp only [Act.put, List.setIfInBounds_toArray, List.set_cons_zero, List.set_cons_succ]
            refine wpAnyH_done (by kernel_rfl) ?_ _
            refine NoPanic.normal ?_
            have sc0 := kd4.c0
            have sc1 := kd4.c1
            try go_wp2_with fail
            refine bodyPost_ret (v := .tuple #[dv2 a b, .bool c]) (by simp [results, Try.results24, go_sem, sc0, sc1]) rfl ⟨by rw [hres.out], kB⟩
      · have dm : decide (m < 0) = false := by simpa using hm0
        by_cases hn0 : n < 0
        · have dn : decide (n < 0) = true := by simpa using hn0
          by_cases hxy : x < y
          · have hres0 := Hless.out (by rw [dm, dn]; decide) hxy
            rw [dn] at hres0
            have hdc := Lib.hid (fun W v hv => rdec_of true (y - x) v 18 W hv (by omega) (by omega))
            obtain ⟨a, b, c, hab⟩ := normV_form (decOf true (y - x) 18)
            have hres : Hid (normV (radd2 m s n t) = .tuple #[dv2 a b, .bool c]) := by show _ = _; rw [hres0, hab]
            rw [hab] at hdc
            clear hres0 hab
            have hxy2 := Lib.hid (Nat.le_of_lt hxy)
            have hc := Lib.hid (fun W hv hu => rcompare_lt hxy vtx vty W hv hu)
            clear Hsame Hless Hmore hxy
            have c0d2 := kd2.c0; have c1d2 := kd2.c1; have c0d3 := kd3.c0; have c1d3 := kd3.c1
            go_wp2_with fail
            clear c0d2 c1d2 c0d3 c1d3
            refine (hc.out _ kxtx kxty).mono ?_; rintro e w6 ⟨rfl, b6⟩
            replace kxtx := kxtx.below b6
            replace kxty := kxty.below b6
            replace kB := kB.trans (b6.mono kB.size)
            replace kd2 := kd2.below b6
            replace kd3 := kd3.below b6
            replace kd4 := kd4.below b6
            clear b6 hc
            have c0d2 := kd2.c0; have c1d2 := kd2.c1; have c0d3 := kd3.c0; have c1d3 := kd3.c1
            go_upto_region 8 with (fail)
            clear c0d2 c1d2 c0d3 c1d3
            refine wp_region_noPanic ?_
            refine wp_region_held_drew (S := fun X => Below w.heap.size w X ∧ DecAt X (w.heap.size) m s ∧ DecAt X (w.heap.size + 1) n t) (by kernel_rfl) ?_ (fun hHeld => ?_)
            · exact ⟨Below.drew kB, DecAt.drew kd2, DecAt.drew kd3⟩
            replace kB := Below.drew kB
            replace kd2 := DecAt.drew kd2
            replace kd3 := DecAt.drew kd3
            replace kd4 := DecAt.drew kd4
            replace kxtx := DR.drew kxtx
            replace kxty := DR.drew kxty
            obtain ⟨qw, hcur⟩ : ∃ uu, uu = w6.drew := ⟨_, rfl⟩
            rw [← hcur] at hHeld kB kd2 kd3 kd4 kxtx kxty ⊢
            clear hcur
            refine wpAnyH_take (i := 0) (v := ?_) (by simp only [List.getElem?_toArray, List.getElem?_cons_succ, List.getElem?_cons_zero]; rfl) (by kernel_rfl) (by kernel_rfl) (by kernel_rfl) (fun _ _ _ h => h) (Or.inl ⟨by rfl, ?_⟩) hHeld ?_
            rotate_left
            · intro x hSw; first | (go_simp; done) | (go_simp; with_reducible rfl)
            try simp only [Act.put, List.setIfInBounds_toArray, List.set_cons_zero, List.set_cons_succ]
            refine wpAnyH_take (i := 1) (v := ?_) (by simp only [List.getElem?_toArray, List.getElem?_cons_succ, List.getElem?_cons_zero]; rfl) (by kernel_rfl) (by kernel_rfl) (by kernel_rfl) (fun _ _ _ h => h) (Or.inl ⟨by rfl, ?_⟩) hHeld ?_
            rotate_left
            · intro x hSw; (try dsimp only at hSw); obtain ⟨_, hd2, hd3⟩ := hSw; have c0d2 := hd2.c0; have c1d2 := hd2.c1; have c0d3 := hd3.c0; have c1d3 := hd3.c1; first | (go_simp; done) | (go_simp; with_reducible rfl)
            try simp only [Act.put, List.setIfInBounds_toArray, List.set_cons_zero, List.set_cons_succ]
            refine wpAnyH_take (i := 2) (v := ?_) (by simp only [List.getElem?_toArray, List.getElem?_cons_succ, List.getElem?_cons_zero]; rfl) (by kernel_rfl) (by kernel_rfl) (by kernel_rfl) (fun _ _ _ h => h) (Or.inl ⟨by rfl, ?_⟩) hHeld ?_
            rotate_left
            · intro x hSw; first | (go_simp; done) | (go_simp; with_reducible rfl)
            try simp only [Act.put, List.setIfInBounds_toArray, List.set_cons_zero, List.set_cons_succ]
            refine wpAnyH_take (i := 3) (v := ?_) (by simp only [List.getElem?_toArray, List.getElem?_cons_succ, List.getElem?_cons_zero]; rfl) (by kernel_rfl) (by kernel_rfl) (by kernel_rfl) (fun _ _ _ h => h) (Or.inl ⟨by rfl, ?_⟩) hHeld ?_
            rotate_left
            · intro x hSw; first | (go_simp; done) | (go_simp; with_reducible rfl)
            try simp only [Act.put, List.setIfInBounds_toArray, List.set_cons_zero, List.set_cons_succ]
            refine wpAnyH_take (i := 4) (v := ?_) (by simp only [List.getElem?_toArray, List.getElem?_cons_succ, List.getElem?_cons_zero]; rfl) (by kernel_rfl) (by kernel_rfl) (by kernel_rfl) (fun _ _ _ h => h) (Or.inl ⟨by rfl, ?_⟩) hHeld ?_
            rotate_left
            · intro x hSw; first | (go_simp; done) | (go_simp; with_reducible rfl)
            try simp only [Act.put, List.setIfInBounds_toArray, List.set_cons_zero, List.set_cons_succ]
            refine wpAnyH_ready (rs := [5]) (by kernel_rfl) (by simp) ?_
            refine AllReadyH.cons (by simp only [List.getElem?_toArray, List.getElem?_cons_succ, List.getElem?_cons_zero]; rfl) (fun K hK => ?_) AllReadyH.nil
            try go_simp
            refine (rminus_calls y x vty vtx _ kxty kxtx hY.out hxy2.out).mono ?_; rintro e wq1 ⟨vp, rfl, kxp, q1⟩
            replace kxtx := kxtx.below q1
            replace kxty := kxty.below q1
            replace kB := kB.trans (q1.mono kB.size)
            replace kd2 := kd2.below q1
            replace kd3 := kd3.below q1
            replace kd4 := kd4.below q1
            clear q1
            try go_wp2_with fail
            refine hK.out _ _ ?_ (fun hHeld => ?_)
            · exact ⟨kB, kd2, kd3⟩
            clear hK K
            try simp only [Act.put, List.setIfInBounds_toArray, List.set_cons_zero, List.set_cons_succ]
            refine wpAnyH_ready (rs := [6]) (by kernel_rfl) (by simp) ?_
            refine AllReadyH.cons (by simp only [List.getElem?_toArray, List.getElem?_cons_succ, List.getElem?_cons_zero]; rfl) (fun K hK => ?_) AllReadyH.nil
            try go_simp
            refine (hdc.out _ _ kxp).mono ?_; rintro e wq2 ⟨rfl, q2⟩
            replace kxtx := kxtx.below q2
            replace kxty := kxty.below q2
            replace kxp := kxp.below q2
            replace kB := kB.trans (q2.mono kB.size)
            replace kd2 := kd2.below q2
            replace kd3 := kd3.below q2
            replace kd4 := kd4.below q2
            clear q2
            try go_wp2_with fail
            refine hK.out _ _ ?_ (fun hHeld => ?_)
            · exact ⟨kB, kd2, kd3⟩
            clear hK K
            try simp only [Act.put, List.setIfInBounds_toArray, List.set_cons_zero, List.set_cons_succ]
            refine wpAnyH_take (i := 7) (v := ?_) (by simp only [List.getElem?_toArray, List.getElem?_cons_succ, List.getElem?_cons_zero]; rfl) (by kernel_rfl) (by kernel_rfl) (by kernel_rfl) (fun _ _ _ h => h) (Or.inl ⟨by rfl, ?_⟩) hHeld ?_
            rotate_left
            · intro x hSw; first | (go_simp; done) | (go_simp; with_reducible rfl)
            try simp only [Act.put, List.setIfInBounds_toArray, List.set_cons_zero, List.set_cons_succ]
            refine wpAnyH_take (i := 8) (v := ?_) (by simp only [List.getElem?_toArray, List.getElem?_cons_succ, List.getElem?_cons_zero]; rfl) (by kernel_rfl) (by kernel_rfl) (by kernel_rfl) (fun _ _ _ h => h) (Or.inl ⟨by rfl, ?_⟩) hHeld ?_
            rotate_left
            · intro x hSw; first | (go_simp; done) | (go_simp; with_reducible rfl)
            try simp only [Act.put, List.setIfInBounds_toArray, List.set_cons_zero, List.set_cons_succ]
            refine wpAnyH_ready (rs := [9]) (by kernel_rfl) (by simp) ?_
            refine AllReadyH.cons (by simp only [List.getElem?_toArray, List.getElem?_cons_succ, List.getElem?_cons_zero]; rfl) (fun K hK => ?_) AllReadyH.nil
            have sc0 := kd4.c0; have sc1 := kd4.c1; have sf0 := kd4.f0; have sf1 := kd4.f1
            go_simp
            clear sc0 sc1 sf0 sf1
            replace kB := below_put (g := (w.heap.size + 2)) kB (by omega) (a) (b)
            replace kd2 := kd2.putOther (g := (w.heap.size + 2)) (by omega) (a) (b)
            replace kd3 := kd3.putOther (g := (w.heap.size + 2)) (by omega) (a) (b)
            replace kd4 := kd4.put (a) (b)
            clear kxtx kxty kxp
            unfold putDec at kB kd2 kd3 kd4
            refine hK.out _ _ ?_ (fun hHeld => ?_)
            · exact ⟨kB, kd2, kd3⟩
            clear hK K
            try simp only [Act.put, List.setIfInBounds_toArray, List.set_cons_zero, List.set_cons_succ]
            refine wpAnyH_take (i := 10) (v := ?_) (by simp only [List.getElem?_toArray, List.getElem?_cons_succ, List.getElem?_cons_zero]; rfl) (by kernel_rfl) (by kernel_rfl) (by kernel_rfl) (fun _ _ _ h => h) (Or.inl ⟨by rfl, ?_⟩) hHeld ?_
            rotate_left
            · intro x hSw; first | (go_simp; done) | (go_simp; with_reducible rfl)
            try simp only [Act.put, List.setIfInBounds_toArray, List.set_cons_zero, List.set_cons_succ]
            refine wpAnyH_done (by kernel_rfl) ?_ _
            refine NoPanic.normal ?_
            have sc0 := kd4.c0
            have sc1 := kd4.c1
            try go_wp2_with fail
            refine bodyPost_ret (v := .tuple #[dv2 a b, .bool c]) (by simp [results, Try.results24, go_sem, sc0, sc1]) rfl ⟨by rw [hres.out], kB⟩
          · have hres0 := Hmore.out (by rw [dm, dn]; decide) hxy
            rw [dm] at hres0
            have hdc := Lib.hid (fun W v hv => rdec_of false (x - y) v 18 W hv (by omega) (by omega))
            obtain ⟨a, b, c, hab⟩ := normV_form (decOf false (x - y) 18)
            have hres : Hid (normV (radd2 m s n t) = .tuple #[dv2 a b, .bool c]) := by show _ = _; rw [hres0, hab]
            rw [hab] at hdc
            clear hres0 hab
            have hxy2 := Lib.hid (Nat.le_of_not_lt hxy)
            obtain ⟨kk, hk0, hcc⟩ := rcompare_ge hxy
            have hc := Lib.hid (fun W hv hu => hcc vtx vty W hv hu)
            clear Hsame Hless Hmore hxy hcc
            have c0d2 := kd2.c0; have c1d2 := kd2.c1; have c0d3 := kd3.c0; have c1d3 := kd3.c1
            go_wp2_with fail
            clear c0d2 c1d2 c0d3 c1d3
            refine (hc.out _ kxtx kxty).mono ?_; rintro e w6 ⟨rfl, b6⟩
            replace kxtx := kxtx.below b6
            replace kxty := kxty.below b6
            replace kB := kB.trans (b6.mono kB.size)
            replace kd2 := kd2.below b6
            replace kd3 := kd3.below b6
            replace kd4 := kd4.below b6
            clear b6 hc
            have c0d2 := kd2.c0; have c1d2 := kd2.c1; have c0d3 := kd3.c0; have c1d3 := kd3.c1
            go_upto_region 7 with (fail)
            clear c0d2 c1d2 c0d3 c1d3
            refine wp_region_noPanic ?_
            refine wp_region_held_drew (S := fun X => Below w.heap.size w X ∧ DecAt X (w.heap.size) m s ∧ DecAt X (w.heap.size + 1) n t) (by kernel_rfl) ?_ (fun hHeld => ?_)
            · exact ⟨Below.drew kB, DecAt.drew kd2, DecAt.drew kd3⟩
            replace kB := Below.drew kB
            replace kd2 := DecAt.drew kd2
            replace kd3 := DecAt.drew kd3
            replace kd4 := DecAt.drew kd4
            replace kxtx := DR.drew kxtx
            replace kxty := DR.drew kxty
            obtain ⟨qw, hcur⟩ : ∃ uu, uu = w6.drew := ⟨_, rfl⟩
            rw [← hcur] at hHeld kB kd2 kd3 kd4 kxtx kxty ⊢
            clear hcur
            refine wpAnyH_take (i := 0) (v := ?_) (by simp only [List.getElem?_toArray, List.getElem?_cons_succ, List.getElem?_cons_zero]; rfl) (by kernel_rfl) (by kernel_rfl) (by kernel_rfl) (fun _ _ _ h => h) (Or.inl ⟨by rfl, ?_⟩) hHeld ?_
            rotate_left
            · intro x hSw; first | (go_simp; done) | (go_simp; with_reducible rfl)
            try simp only [Act.put, List.setIfInBounds_toArray, List.set_cons_zero, List.set_cons_succ]
            refine wpAnyH_take (i := 1) (v := ?_) (by simp only [List.getElem?_toArray, List.getElem?_cons_succ, List.getElem?_cons_zero]; rfl) (by kernel_rfl) (by kernel_rfl) (by kernel_rfl) (fun _ _ _ h => h) (Or.inl ⟨by rfl, ?_⟩) hHeld ?_
            rotate_left
            · intro x hSw; (try dsimp only at hSw); obtain ⟨_, hd2, hd3⟩ := hSw; have c0d2 := hd2.c0; have c1d2 := hd2.c1; have c0d3 := hd3.c0; have c1d3 := hd3.c1; first | (go_simp; done) | (go_simp; with_reducible rfl)
            try simp only [Act.put, List.setIfInBounds_toArray, List.set_cons_zero, List.set_cons_succ]
            refine wpAnyH_take (i := 2) (v := ?_) (by simp only [List.getElem?_toArray, List.getElem?_cons_succ, List.getElem?_cons_zero]; rfl) (by kernel_rfl) (by kernel_rfl) (by kernel_rfl) (fun _ _ _ h => h) (Or.inl ⟨by rfl, ?_⟩) hHeld ?_
            rotate_left
            · intro x hSw; first | (go_simp; done) | (go_simp; with_reducible rfl)
            try simp only [Act.put, List.setIfInBounds_toArray, List.set_cons_zero, List.set_cons_succ]
            refine wpAnyH_take (i := 3) (v := ?_) (by simp only [List.getElem?_toArray, List.getElem?_cons_succ, List.getElem?_cons_zero]; rfl) (by kernel_rfl) (by kernel_rfl) (by kernel_rfl) (fun _ _ _ h => h) (Or.inl ⟨by rfl, ?_⟩) hHeld ?_
            rotate_left
            · intro x hSw; first | (go_simp; done) | (go_simp; with_reducible rfl)
            try simp only [Act.put, List.setIfInBounds_toArray, List.set_cons_zero, List.set_cons_succ]
            refine wpAnyH_take (i := 4) (v := ?_) (by simp only [List.getElem?_toArray, List.getElem?_cons_succ, List.getElem?_cons_zero]; rfl) (by kernel_rfl) (by kernel_rfl) (by kernel_rfl) (fun _ _ _ h => h) (Or.inl ⟨by rfl, ?_⟩) hHeld ?_
            rotate_left
            · intro x hSw; first | (go_simp; done) | (go_simp; with_reducible rfl)
            try simp only [Act.put, List.setIfInBounds_toArray, List.set_cons_zero, List.set_cons_succ]
            refine wpAnyH_ready (rs := [5]) (by kernel_rfl) (by simp) ?_
            refine AllReadyH.cons (by simp only [List.getElem?_toArray, List.getElem?_cons_succ, List.getElem?_cons_zero]; rfl) (fun K hK => ?_) AllReadyH.nil
            try go_simp
            refine (rminus_calls x y vtx vty _ kxtx kxty hX.out hxy2.out).mono ?_; rintro e wq1 ⟨vp, rfl, kxp, q1⟩
            replace kxtx := kxtx.below q1
            replace kxty := kxty.below q1
            replace kB := kB.trans (q1.mono kB.size)
            replace kd2 := kd2.below q1
            replace kd3 := kd3.below q1
            replace kd4 := kd4.below q1
            clear q1
            try go_wp2_with fail
            refine hK.out _ _ ?_ (fun hHeld => ?_)
            · exact ⟨kB, kd2, kd3⟩
            clear hK K
            try simp only [Act.put, List.setIfInBounds_toArray, List.set_cons_zero, List.set_cons_succ]
            refine wpAnyH_ready (rs := [6]) (by kernel_rfl) (by simp) ?_
            refine AllReadyH.cons (by simp only [List.getElem?_toArray, List.getElem?_cons_succ, List.getElem?_cons_zero]; rfl) (fun K hK => ?_) AllReadyH.nil
            try go_simp
            refine (hdc.out _ _ kxp).mono ?_; rintro e wq2 ⟨rfl, q2⟩
            replace kxtx := kxtx.below q2
            replace kxty := kxty.below q2
            replace kxp := kxp.below q2
            replace kB := kB.trans (q2.mono kB.size)
            replace kd2 := kd2.below q2
            replace kd3 := kd3.below q2
            replace kd4 := kd4.below q2
            clear q2
            try go_wp2_with fail
            refine hK.out _ _ ?_ (fun hHeld => ?_)
            · exact ⟨kB, kd2, kd3⟩
            clear hK K
            try simp only [Act.put, List.setIfInBounds_toArray, List.set_cons_zero, List.set_cons_succ]
            refine wpAnyH_take (i := 7) (v := ?_) (by simp only [List.getElem?_toArray, List.getElem?_cons_succ, List.getElem?_cons_zero]; rfl) (by kernel_rfl) (by kernel_rfl) (by kernel_rfl) (fun _ _ _ h => h) (Or.inl ⟨by rfl, ?_⟩) hHeld ?_
            rotate_left
            · intro x hSw; first | (go_simp; done) | (go_simp; with_reducible rfl)
            try simp only [Act.put, List.setIfInBounds_toArray, List.set_cons_zero, List.set_cons_succ]
            refine wpAnyH_take (i := 8) (v := ?_) (by simp only [List.getElem?_toArray, List.getElem?_cons_succ, List.getElem?_cons_zero]; rfl) (by kernel_rfl) (by kernel_rfl) (by kernel_rfl) (fun _ _ _ h => h) (Or.inl ⟨by rfl, ?_⟩) hHeld ?_
            rotate_left
            · intro x hSw; first | (go_simp; done) | (go_simp; with_reducible rfl)
            try simp only [Act.put, List.setIfInBounds_toArray, List.set_cons_zero, List.set_cons_succ]
            refine wpAnyH_ready (rs := [9]) (by kernel_rfl) (by simp) ?_
            refine AllReadyH.cons (by simp only [List.getElem?_toArray, List.getElem?_cons_succ, List.getElem?_cons_zero]; rfl) (fun K hK => ?_) AllReadyH.nil
            have sc0 := kd4.c0; have sc1 := kd4.c1; have sf0 := kd4.f0; have sf1 := kd4.f1
            go_simp
            clear sc0 sc1 sf0 sf1
            replace kB := below_put (g := (w.heap.size + 2)) kB (by omega) (a) (b)
            replace kd2 := kd2.putOther (g := (w.heap.size + 2)) (by omega) (a) (b)
            replace kd3 := kd3.putOther (g := (w.heap.size + 2)) (by omega) (a) (b)
            replace kd4 := kd4.put (a) (b)
            clear kxtx kxty kxp
            unfold putDec at kB kd2 kd3 kd4
            refine hK.out _ _ ?_ (fun hHeld => ?_)
            · exact ⟨kB, kd2, kd3⟩
            clear hK K
            try simp only [Act.put, List.setIfInBounds_toArray, List.set_cons_zero, List.set_cons_succ]
            refine wpAnyH_take (i := 10) (v := ?_) (by simp only [List.getElem?_toArray, List.getElem?_cons_succ, List.getElem?_cons_zero]; rfl) (by kernel_rfl) (by kernel_rfl) (by kernel_rfl) (fun _ _ _ h => h) (Or.inl ⟨by rfl, ?_⟩) hHeld ?_
            rotate_left
            · intro x hSw; first | (go_simp; done) | (go_simp; with_reducible rfl)
            try simp only [Act.put, List.setIfInBounds_toArray, List.set_cons_zero, List.set_cons_succ]
            refine wpAnyH_done (by kernel_rfl) ?_ _
            refine NoPanic.normal ?_
            have sc0 := kd4.c0
            have sc1 := kd4.c1
            try go_wp2_with fail
            refine bodyPost_ret (v := .tuple #[dv2 a b, .bool c]) (by simp [results, Try.results24, go_sem, sc0, sc1]) rfl ⟨by rw [hres.out], kB⟩
        · have dn : decide (n < 0) = false := by simpa using hn0
          have hres0 := Hsame.out (by rw [dm, dn])
          rw [dm] at hres0
          have hdc := Lib.hid (fun W v hv => rdec_of false (x + y) v 18 W hv (by omega) (by omega))
          obtain ⟨a, b, c, hab⟩ := normV_form (decOf false (x + y) 18)
          have hres : Hid (normV (radd2 m s n t) = .tuple #[dv2 a b, .bool c]) := by show _ = _; rw [hres0, hab]
          rw [hab] at hdc
          clear hres0 hab
          clear Hsame Hless Hmore
          have c0d2 := kd2.c0; have c1d2 := kd2.c1; have c0d3 := kd3.c0; have c1d3 := kd3.c1
          go_upto_region 5 with (fail)
          clear c0d2 c1d2 c0d3 c1d3
          refine wp_region_noPanic ?_
          refine wp_region_held_drew (S := fun X => Below w.heap.size w X ∧ DecAt X (w.heap.size) m s ∧ DecAt X (w.heap.size + 1) n t) (by kernel_rfl) ?_ (fun hHeld => ?_)
          · exact ⟨Below.drew kB, DecAt.drew kd2, DecAt.drew kd3⟩
          replace kB := Below.drew kB
          replace kd2 := DecAt.drew kd2
          replace kd3 := DecAt.drew kd3
          replace kd4 := DecAt.drew kd4
          replace kxtx := DR.drew kxtx
          replace kxty := DR.drew kxty
          obtain ⟨qw, hcur⟩ : ∃ uu, uu = wq4.drew := ⟨_, rfl⟩
          rw [← hcur] at hHeld kB kd2 kd3 kd4 kxtx kxty ⊢
          clear hcur
          refine wpAnyH_take (i := 0) (v := ?_) (by simp only [List.getElem?_toArray, List.getElem?_cons_succ, List.getElem?_cons_zero]; rfl) (by kernel_rfl) (by kernel_rfl) (by kernel_rfl) (fun _ _ _ h => h) (Or.inl ⟨by rfl, ?_⟩) hHeld ?_
          rotate_left
          · intro x hSw; first | (go_simp; done) | (go_simp; with_reducible rfl)
          try simp only [Act.put, List.setIfInBounds_toArray, List.set_cons_zero, List.set_cons_succ]
          refine wpAnyH_take (i := 1) (v := ?_) (by simp only [List.getElem?_toArray, List.getElem?_cons_succ, List.getElem?_cons_zero]; rfl) (by kernel_rfl) (by kernel_rfl) (by kernel_rfl) (fun _ _ _ h => h) (Or.inl ⟨by rfl, ?_⟩) hHeld ?_
          rotate_left
          · intro x hSw; (try dsimp only at hSw); obtain ⟨_, hd2, hd3⟩ := hSw; have c0d2 := hd2.c0; have c1d2 := hd2.c1; have c0d3 := hd3.c0; have c1d3 := hd3.c1; first | (go_simp; done) | (go_simp; with_reducible rfl)
          try simp only [Act.put, List.setIfInBounds_toArray, List.set_cons_zero, List.set_cons_succ]
          refine wpAnyH_take (i := 2) (v := ?_) (by simp only [List.getElem?_toArray, List.getElem?_cons_succ, List.getElem?_cons_zero]; rfl) (by kernel_rfl) (by kernel_rfl) (by kernel_rfl) (fun _ _ _ h => h) (Or.inl ⟨by rfl, ?_⟩) hHeld ?_
          rotate_left
          · intro x hSw; first | (go_simp; done) | (go_simp; with_reducible rfl)
          try simp only [Act.put, List.setIfInBounds_toArray, List.set_cons_zero, List.set_cons_succ]
          refine wpAnyH_take (i := 3) (v := ?_) (by simp only [List.getElem?_toArray, List.getElem?_cons_succ, List.getElem?_cons_zero]; rfl) (by kernel_rfl) (by kernel_rfl) (by kernel_rfl) (fun _ _ _ h => h) (Or.inl ⟨by rfl, ?_⟩) hHeld ?_
          rotate_left
          · intro x hSw; first | (go_simp; done) | (go_simp; with_reducible rfl)
          try simp only [Act.put, List.setIfInBounds_toArray, List.set_cons_zero, List.set_cons_succ]
          refine wpAnyH_take (i := 4) (v := ?_) (by simp only [List.getElem?_toArray, List.getElem?_cons_succ, List.getElem?_cons_zero]; rfl) (by kernel_rfl) (by kernel_rfl) (by kernel_rfl) (fun _ _ _ h => h) (Or.inl ⟨by rfl, ?_⟩) hHeld ?_
          rotate_left
          · intro x hSw; first | (go_simp; done) | (go_simp; with_reducible rfl)
          try simp only [Act.put, List.setIfInBounds_toArray, List.set_cons_zero, List.set_cons_succ]
          refine wpAnyH_ready (rs := [5]) (by kernel_rfl) (by simp) ?_
          refine AllReadyH.cons (by simp only [List.getElem?_toArray, List.getElem?_cons_succ, List.getElem?_cons_zero]; rfl) (fun K hK => ?_) AllReadyH.nil
          try go_simp
          refine (rplus_calls x y vtx vty _ kxtx kxty hX.out hY.out).mono ?_; rintro e wq1 ⟨vp, rfl, kxp, q1⟩
          replace kxtx := kxtx.below q1
          replace kxty := kxty.below q1
          replace kB := kB.trans (q1.mono kB.size)
          replace kd2 := kd2.below q1
          replace kd3 := kd3.below q1
          replace kd4 := kd4.below q1
          clear q1
          try go_wp2_with fail
          refine hK.out _ _ ?_ (fun hHeld => ?_)
          · exact ⟨kB, kd2, kd3⟩
          clear hK K
          try simp only [Act.put, List.setIfInBounds_toArray, List.set_cons_zero, List.set_cons_succ]
          refine wpAnyH_ready (rs := [6]) (by kernel_rfl) (by simp) ?_
          refine AllReadyH.cons (by simp only [List.getElem?_toArray, List.getElem?_cons_succ, List.getElem?_cons_zero]; rfl) (fun K hK => ?_) AllReadyH.nil
          try go_simp
          refine (hdc.out _ _ kxp).mono ?_; rintro e wq2 ⟨rfl, q2⟩
          replace kxtx := kxtx.below q2
          replace kxty := kxty.below q2
          replace kxp := kxp.below q2
          replace kB := kB.trans (q2.mono kB.size)
          replace kd2 := kd2.below q2
          replace kd3 := kd3.below q2
          replace kd4 := kd4.below q2
          clear q2
          try go_wp2_with fail
          refine hK.out _ _ ?_ (fun hHeld => ?_)
          · exact ⟨kB, kd2, kd3⟩
          clear hK K
          try simp only [Act.put, List.setIfInBounds_toArray, List.set_cons_zero, List.set_cons_succ]
          refine wpAnyH_take (i := 7) (v := ?_) (by simp only [List.getElem?_toArray, List.getElem?_cons_succ, List.getElem?_cons_zero]; rfl) (by kernel_rfl) (by kernel_rfl) (by kernel_rfl) (fun _ _ _ h => h) (Or.inl ⟨by rfl, ?_⟩) hHeld ?_
          rotate_left
          · intro x hSw; first | (go_simp; done) | (go_simp; with_reducible rfl)
          try simp only [Act.put, List.setIfInBounds_toArray, List.set_cons_zero, List.set_cons_succ]
          refine wpAnyH_take (i := 8) (v := ?_) (by simp only [List.getElem?_toArray, List.getElem?_cons_succ, List.getElem?_cons_zero]; rfl) (by kernel_rfl) (by kernel_rfl) (by kernel_rfl) (fun _ _ _ h => h) (Or.inl ⟨by rfl, ?_⟩) hHeld ?_
          rotate_left
          · intro x hSw; first | (go_simp; done) | (go_simp; with_reducible rfl)
          try simp only [Act.put, List.setIfInBounds_toArray, List.set_cons_zero, List.set_cons_succ]
          refine wpAnyH_ready (rs := [9]) (by kernel_rfl) (by simp) ?_
          refine AllReadyH.cons (by simp only [List.getElem?_toArray, List.getElem?_cons_succ, List.getElem?_cons_zero]; rfl) (fun K hK => ?_) AllReadyH.nil
          have sc0 := kd4.c0; have sc1 := kd4.c1; have sf0 := kd4.f0; have sf1 := kd4.f1
          go_simp
          clear sc0 sc1 sf0 sf1
          replace kB := below_put (g := (w.heap.size + 2)) kB (by omega) (a) (b)
          replace kd2 := kd2.putOther (g := (w.heap.size + 2)) (by omega) (a) (b)
          replace kd3 := kd3.putOther (g := (w.heap.size + 2)) (by omega) (a) (b)
          replace kd4 := kd4.put (a) (b)
          clear kxtx kxty kxp
          unfold putDec at kB kd2 kd3 kd4
          refine hK.out _ _ ?_ (fun hHeld => ?_)
          · exact ⟨kB, kd2, kd3⟩
          clear hK K
          try simp only [Act.put, List.setIfInBounds_toArray, List.set_cons_zero, List.set_cons_succ]
          refine wpAnyH_take (i := 10) (v := ?_) (by simp only [List.getElem?_toArray, List.getElem?_cons_succ, List.getElem?_cons_zero]; rfl) (by kernel_rfl) (by kernel_rfl) (by kernel_rfl) (fun _ _ _ h => h) (Or.inl ⟨by rfl, ?_⟩) hHeld ?_
          rotate_left
          · intro x hSw; first | (go_simp; done) | (go_simp; with_reducible rfl)
          try simp only [Act.put, List.setIfInBounds_toArray, List.set_cons_zero, List.set_cons_succ]
          refine wpAnyH_done (by kernel_rfl) ?_ _
          refine NoPanic.normal ?_
          have sc0 := kd4.c0
          have sc1 := kd4.c1
          try go_wp2_with fail
          refine bodyPost_ret (v := .tuple #[dv2 a b, .bool c]) (by simp [results, Try.results24, go_sem, sc0, sc1]) rfl ⟨by rw [hres.out], kB⟩

end Go.Proofs.Ytpciohnnnpgpiaa
