/- The reference's Over. -/
import Derived.Test.YtpciohnnnpgpiaaRefSumK1
import Derived.Test.YtpciohnnnpgpiaaRefSumH
import Derived.Deep.DeepCutAuto
set_option linter.unusedVariables false
set_option linter.unusedSimpArgs false
namespace Go.Proofs.Ytpciohnnnpgpiaa
open Go.RowKit Dc
attribute [local go_sem ↓] Go.wp_at_zero Go.wp_at_succ

set_option maxRecDepth 100000 in
set_option maxHeartbeats 8000000 in
theorem rover_walk (m s n t : Int) (w : World) (hm1 : -9223372036854775808 ≤ m) (hm2 : m ≤ 9223372036854775807) (hn1 : -9223372036854775808 ≤ n) (hn2 : n ≤ 9223372036854775807) :
    Calls Try.prog 14 #[dv2 m s, dv2 n t] w fun e w' => e = .returned (normV (overO m s n t)) ∧ Below w.heap.size w w' := by
  have kB := kb_alloc (kb_alloc (kb_alloc (Below.refl w.heap.size w) (Nat.le_refl _) (.cells #[.int .i64 m, .int .i64 s] 25)) (Nat.le_refl _) (.cells #[.int .i64 n, .int .i64 t] 25)) (Nat.le_refl _) (.cells #[.int .i64 0, .int .i64 0] 25)
  have kd2 := ((DecAt.new w m s).alloc (.cells #[.int .i64 n, .int .i64 t] 25)).alloc (.cells #[.int .i64 0, .int .i64 0] 25)
  have kd3 := (DecAt.new (w.alloc (.cells #[.int .i64 m, .int .i64 s] 25)) n t).alloc (.cells #[.int .i64 0, .int .i64 0] 25)
  have kd4 := DecAt.new ((w.alloc (.cells #[.int .i64 m, .int .i64 s] 25)).alloc (.cells #[.int .i64 n, .int .i64 t] 25)) 0 0
  rw [show (w.alloc (.cells #[.int .i64 m, .int .i64 s] 25)).heap.size = w.heap.size + 1 by simp] at kd3
  rw [show ((w.alloc (.cells #[.int .i64 m, .int .i64 s] 25)).alloc (.cells #[.int .i64 n, .int .i64 t] 25)).heap.size = w.heap.size + 2 by simp] at kd4
  go_enter Try.func14, Try.ntmps14
  go_wp2_with fail
  refine (rgood_calls m s _).mono ?_; rintro e w1 ⟨rfl, b1⟩
  replace kB := kB.trans (b1.mono kB.size)
  replace kd2 := kd2.below b1
  replace kd3 := kd3.below b1
  replace kd4 := kd4.below b1
  clear b1
  cases hga : goodD m s with
  | false =>
    have hres : Hid (overO m s n t = none) := by show _ = _; unfold overO; rw [if_neg (by simp [hga])]
    clear hga
    have sc0 := kd4.c0
    have sc1 := kd4.c1
    have sf0 := kd4.f0
    have sf1 := kd4.f1
    go_wp2_with fail
    refine bodyPost_ret (v := normV none) (by simp [results, Try.results14, go_sem, normV, sc0, sc1, sf0, sf1]) rfl ⟨by rw [hres.out], ?_⟩
    repeat (refine Below.setCell ?_ (by first | (simp; done) | (simp; omega)) _)
    exact kB
  | true =>
    have c0d2 := kd2.c0; have c1d2 := kd2.c1; have c0d3 := kd3.c0; have c1d3 := kd3.c1
    have Hga := Lib.hid hga
    clear hga
    go_wp2_with fail
    clear c0d2 c1d2 c0d3 c1d3
    refine (rgood_calls n t _).mono ?_; rintro e w2 ⟨rfl, b2⟩
    replace kB := kB.trans (b2.mono kB.size)
    replace kd2 := kd2.below b2
    replace kd3 := kd3.below b2
    replace kd4 := kd4.below b2
    clear b2
    cases hgb : goodD n t with
    | false =>
      have hres : Hid (overO m s n t = none) := by show _ = _; unfold overO; rw [if_neg (by simp [hgb])]
      clear hgb
      have sc0 := kd4.c0
      have sc1 := kd4.c1
      have sf0 := kd4.f0
      have sf1 := kd4.f1
      go_wp2_with fail
      refine bodyPost_ret (v := normV none) (by simp [results, Try.results14, go_sem, normV, sc0, sc1, sf0, sf1]) rfl ⟨by rw [hres.out], ?_⟩
      repeat (refine Below.setCell ?_ (by first | (simp; done) | (simp; omega)) _)
      exact kB
    | true =>
      by_cases hn0 : n = 0
      · subst hn0
        have hres : Hid (overO m s 0 t = none) := by show _ = _; unfold overO; rw [if_neg (by simp)]
        clear hgb Hga
        have c0d3 := kd3.c0
        have sc0 := kd4.c0
        have sc1 := kd4.c1
        have sf0 := kd4.f0
        have sf1 := kd4.f1
        go_wp2_with fail
        refine bodyPost_ret (v := normV none) (by simp [results, Try.results14, go_sem, normV, sc0, sc1, sf0, sf1]) rfl ⟨by rw [hres.out], ?_⟩
        repeat (refine Below.setCell ?_ (by first | (simp; done) | (simp; omega)) _)
        exact kB
      have hga := Hga.out
      have hm := big_of hga hm1 hm2
      have hn := big_of hgb hn1 hn2
      obtain ⟨gs0, gs1, _, _⟩ := (goodD_iff m s).1 hga
      obtain ⟨gt0, gt1, _, _⟩ := (goodD_iff n t).1 hgb
      have ha1 := Lib.hid (fun W => ramount_calls m W hm1 hm2)
      have ha2 := Lib.hid (fun W => ramount_calls n W hn1 hn2)
      have ht := Lib.hid (fun W v hv => rtens_of m.natAbs (18 + t - s) v W hv (by unfold big at hm; omega) (by omega) (by omega))
      have hX : m.natAbs * 10 ^ (18 + t - s).toNat < 10 ^ 80 := by
        have h3 : (10 : Nat) ^ (18 + t - s).toNat ≤ 10 ^ 36 := Nat.pow_le_pow_right (by omega) (by omega)
        have h4 : m.natAbs * 10 ^ (18 + t - s).toNat ≤ big * 10 ^ 36 := Nat.mul_le_mul hm h3
        unfold big at h4
        omega
      have hdv : dvd m s t = m.natAbs * 10 ^ (18 + t - s).toNat := by unfold dvd; rw [show 18 - s + t = 18 + t - s by omega]
      have hov1 : Hid (m.natAbs * 10 ^ (18 + t - s).toNat % n.natAbs = 0 → overO m s n t = decOf (!(decide (m < 0) == decide (n < 0))) (m.natAbs * 10 ^ (18 + t - s).toNat / n.natAbs) 18) := fun h => by
        unfold overO; rw [hdv, if_pos ⟨hga, hgb, hn0, h⟩]; rfl
      have hov0 : Hid (¬ m.natAbs * 10 ^ (18 + t - s).toNat % n.natAbs = 0 → overO m s n t = none) := fun h => by
        unfold overO; rw [hdv, if_neg (fun e => h e.2.2.2)]
      have hY0 : 0 < n.natAbs := by omega
      have hY : n.natAbs < 10 ^ 40 := by unfold big at hn; omega
      obtain ⟨X, hXe⟩ : ∃ X, X = m.natAbs * 10 ^ (18 + t - s).toNat := ⟨_, rfl⟩
      obtain ⟨Y, hYe⟩ : ∃ Y, Y = n.natAbs := ⟨_, rfl⟩
      rw [← hXe] at ht hX hov1 hov0
      rw [← hYe] at ha2 hov1 hov0 hY0 hY
      have hq := Lib.hid (fun W v u hv hu => rquotient_calls X Y v u W hv hu hX hY0 hY)
      have hdc := Lib.hid (fun W v hv => rdec_of (!(decide (m < 0) == decide (n < 0))) (X / Y) v 18 W hv (by omega) (by omega))
      have hz0 : Hid ((digs (X % Y)).length = 0 ↔ X % Y = 0) := by
        show _ ↔ _
        constructor
        · intro h
          have h2 := digs_val (X % Y)
          rw [List.length_eq_zero_iff.1 h] at h2
          exact h2.symm
        · intro h; rw [h, digs_zero]; rfl
      have hw1 : IntKind.i64.wrap (18 + t) = 18 + t := IntWalk.i64_in _ (by omega)
      have hw2 : IntKind.i64.wrap (18 + t - s) = 18 + t - s := IntWalk.i64_in _ (by omega)
      have hnb : (n == 0) = false := by simpa using hn0
      generalize m.natAbs = mm at *
      clear hga hgb Hga hm hn hm1 hm2 hn1 hn2 hXe hYe hdv hX hY hY0
      have c0d3 := kd3.c0
      go_upto_region 3 with (fail)
      clear c0d3
      refine wp_region_noPanic ?_
      refine wp_region_held_drew (S := fun X => Below w.heap.size w X ∧ DecAt X (w.heap.size) m s ∧ DecAt X (w.heap.size + 1) n t) (by kernel_rfl) ?_ (fun hHeld => ?_)
      · exact ⟨Below.drew kB, DecAt.drew kd2, DecAt.drew kd3⟩
      replace kB := Below.drew kB
      replace kd2 := DecAt.drew kd2
      replace kd3 := DecAt.drew kd3
      replace kd4 := DecAt.drew kd4
      obtain ⟨qw, hcur⟩ : ∃ uu, uu = w2.drew := ⟨_, rfl⟩
      rw [← hcur] at hHeld kB kd2 kd3 kd4 ⊢
      clear hcur
      refine wpAnyH_take (i := 0) (v := ?_) (by simp only [List.getElem?_toArray, List.getElem?_cons_succ, List.getElem?_cons_zero]; rfl) (by kernel_rfl) (by kernel_rfl) (by kernel_rfl) (fun _ _ _ h => h) (Or.inl ⟨by rfl, ?_⟩) hHeld ?_
      rotate_left
      · intro x hSw; first | (go_simp; done) | (go_simp; with_reducible rfl)
      try simp only [Act.put, List.setIfInBounds_toArray, List.set_cons_zero, List.set_cons_succ]
      refine wpAnyH_take (i := 1) (v := ?_) (by simp only [List.getElem?_toArray, List.getElem?_cons_succ, List.getElem?_cons_zero]; rfl) (by kernel_rfl) (by kernel_rfl) (by kernel_rfl) (fun _ _ _ h => h) (Or.inl ⟨by rfl, ?_⟩) hHeld ?_
      rotate_left
      · intro x hSw; (try dsimp only at hSw); obtain ⟨_, hd2, hd3⟩ := hSw; have c0d2 := hd2.c0; have c1d2 := hd2.c1; have c0d3 := hd3.c0; have c1d3 := hd3.c1; first | (go_simp; done) | (go_simp; with_reducible rfl)
      try simp only [Act.put, List.setIfInBounds_toArray, List.set_cons_zero, List.set_cons_succ]
      refine wpAnyH_take (i := 3) (v := ?_) (by simp only [List.getElem?_toArray, List.getElem?_cons_succ, List.getElem?_cons_zero]; rfl) (by kernel_rfl) (by kernel_rfl) (by kernel_rfl) (fun _ _ _ h => h) (Or.inl ⟨by rfl, ?_⟩) hHeld ?_
      rotate_left
      · intro x hSw; first | (go_simp; done) | (go_simp; with_reducible rfl)
      try simp only [Act.put, List.setIfInBounds_toArray, List.set_cons_zero, List.set_cons_succ]
      refine wpAnyH_take (i := 4) (v := ?_) (by simp only [List.getElem?_toArray, List.getElem?_cons_succ, List.getElem?_cons_zero]; rfl) (by kernel_rfl) (by kernel_rfl) (by kernel_rfl) (fun _ _ _ h => h) (Or.inl ⟨by rfl, ?_⟩) hHeld ?_
      rotate_left
      · intro x hSw; (try dsimp only at hSw); obtain ⟨_, hd2, hd3⟩ := hSw; have c0d2 := hd2.c0; have c1d2 := hd2.c1; have c0d3 := hd3.c0; have c1d3 := hd3.c1; first | (go_simp; done) | (go_simp; with_reducible rfl)
      try simp only [Act.put, List.setIfInBounds_toArray, List.set_cons_zero, List.set_cons_succ]
      refine wpAnyH_take (i := 5) (v := ?_) (by simp only [List.getElem?_toArray, List.getElem?_cons_succ, List.getElem?_cons_zero]; rfl) (by kernel_rfl) (by kernel_rfl) (by kernel_rfl) (fun _ _ _ h => h) (Or.inl ⟨by rfl, ?_⟩) hHeld ?_
      rotate_left
      · intro x hSw; first | (go_simp; done) | (go_simp; with_reducible rfl)
      try simp only [Act.put, List.setIfInBounds_toArray, List.set_cons_zero, List.set_cons_succ]
      refine wpAnyH_take (i := 6) (v := ?_) (by simp only [List.getElem?_toArray, List.getElem?_cons_succ, List.getElem?_cons_zero]; rfl) (by kernel_rfl) (by kernel_rfl) (by kernel_rfl) (fun _ _ _ h => h) (Or.inl ⟨by rfl, ?_⟩) hHeld ?_
      rotate_left
      · intro x hSw; first | (go_simp; done) | (go_simp; with_reducible rfl)
      try simp only [Act.put, List.setIfInBounds_toArray, List.set_cons_zero, List.set_cons_succ]
      refine wpAnyH_take (i := 7) (v := ?_) (by simp only [List.getElem?_toArray, List.getElem?_cons_succ, List.getElem?_cons_zero]; rfl) (by kernel_rfl) (by kernel_rfl) (by kernel_rfl) (fun _ _ _ h => h) (Or.inl ⟨by rfl, ?_⟩) hHeld ?_
      rotate_left
      · intro x hSw; (try dsimp only at hSw); obtain ⟨_, hd2, hd3⟩ := hSw; have c0d2 := hd2.c0; have c1d2 := hd2.c1; have c0d3 := hd3.c0; have c1d3 := hd3.c1; first | (go_simp; done) | (go_simp; with_reducible rfl)
      try simp only [Act.put, List.setIfInBounds_toArray, List.set_cons_zero, List.set_cons_succ]
      refine wpAnyH_take (i := 8) (v := ?_) (by simp only [List.getElem?_toArray, List.getElem?_cons_succ, List.getElem?_cons_zero]; rfl) (by kernel_rfl) (by kernel_rfl) (by kernel_rfl) (fun _ _ _ h => h) (Or.inl ⟨by rfl, ?_⟩) hHeld ?_
      rotate_left
      · intro x hSw; first | (go_simp; done) | (go_simp; with_reducible rfl)
      try simp only [Act.put, List.setIfInBounds_toArray, List.set_cons_zero, List.set_cons_succ]
      refine wpAnyH_take (i := 10) (v := ?_) (by simp only [List.getElem?_toArray, List.getElem?_cons_succ, List.getElem?_cons_zero]; rfl) (by kernel_rfl) (by kernel_rfl) (by kernel_rfl) (fun _ _ _ h => h) (Or.inl ⟨by rfl, ?_⟩) hHeld ?_
      rotate_left
      · intro x hSw; first | (go_simp; done) | (go_simp; with_reducible rfl)
      try simp only [Act.put, List.setIfInBounds_toArray, List.set_cons_zero, List.set_cons_succ]
      refine wpAnyH_take (i := 11) (v := ?_) (by simp only [List.getElem?_toArray, List.getElem?_cons_succ, List.getElem?_cons_zero]; rfl) (by kernel_rfl) (by kernel_rfl) (by kernel_rfl) (fun _ _ _ h => h) (Or.inl ⟨by rfl, ?_⟩) hHeld ?_
      rotate_left
      · intro x hSw; (try dsimp only at hSw); obtain ⟨_, hd2, hd3⟩ := hSw; have c0d2 := hd2.c0; have c1d2 := hd2.c1; have c0d3 := hd3.c0; have c1d3 := hd3.c1; first | (go_simp; done) | (go_simp; with_reducible rfl)
      try simp only [Act.put, List.setIfInBounds_toArray, List.set_cons_zero, List.set_cons_succ]
      refine wpAnyH_ready (rs := [2]) (by kernel_rfl) (by simp) ?_
      refine AllReadyH.cons (by simp only [List.getElem?_toArray, List.getElem?_cons_succ, List.getElem?_cons_zero]; rfl) (fun K hK => ?_) AllReadyH.nil
      try go_simp
      refine (ha1.out _).mono ?_; rintro e wq1 ⟨va1, rfl, kxa1, q1⟩
      replace kB := kB.trans (q1.mono kB.size)
      replace kd2 := kd2.below q1
      replace kd3 := kd3.below q1
      replace kd4 := kd4.below q1
      clear q1
      try go_wp2_with fail
      refine hK.out _ _ ?_ (fun hHeld => ?_)
      · exact ⟨kB, kd2, kd3⟩
      clear hK K
      try simp only [Act.put, List.setIfInBounds_toArray, List.set_cons_zero, List.set_cons_succ]
      refine wpAnyH_ready (rs := [9]) (by kernel_rfl) (by simp) ?_
      refine AllReadyH.cons (by simp only [List.getElem?_toArray, List.getElem?_cons_succ, List.getElem?_cons_zero]; rfl) (fun K hK => ?_) AllReadyH.nil
      try go_simp
      refine (ht.out _ _ kxa1).mono ?_; rintro e wq2 ⟨vx, rfl, kxx, q2⟩
      replace kxa1 := kxa1.below q2
      replace kB := kB.trans (q2.mono kB.size)
      replace kd2 := kd2.below q2
      replace kd3 := kd3.below q2
      replace kd4 := kd4.below q2
      clear q2
      try go_wp2_with fail
      refine hK.out _ _ ?_ (fun hHeld => ?_)
      · exact ⟨kB, kd2, kd3⟩
      clear hK K
      try simp only [Act.put, List.setIfInBounds_toArray, List.set_cons_zero, List.set_cons_succ]
      refine wpAnyH_ready (rs := [12]) (by kernel_rfl) (by simp) ?_
      refine AllReadyH.cons (by simp only [List.getElem?_toArray, List.getElem?_cons_succ, List.getElem?_cons_zero]; rfl) (fun K hK => ?_) AllReadyH.nil
      try go_simp
      refine (ha2.out _).mono ?_; rintro e wq3 ⟨va2, rfl, kxa2, q3⟩
      replace kxa1 := kxa1.below q3
      replace kxx := kxx.below q3
      replace kB := kB.trans (q3.mono kB.size)
      replace kd2 := kd2.below q3
      replace kd3 := kd3.below q3
      replace kd4 := kd4.below q3
      clear q3
      try go_wp2_with fail
      refine hK.out _ _ ?_ (fun hHeld => ?_)
      · exact ⟨kB, kd2, kd3⟩
      clear hK K
      try simp only [Act.put, List.setIfInBounds_toArray, List.set_cons_zero, List.set_cons_succ]
      refine wpAnyH_ready (rs := [13]) (by kernel_rfl) (by simp) ?_
      refine AllReadyH.cons (by simp only [List.getElem?_toArray, List.getElem?_cons_succ, List.getElem?_cons_zero]; rfl) (fun K hK => ?_) AllReadyH.nil
      try go_simp
      refine (hq.out _ _ _ kxx kxa2).mono ?_; rintro e wq4 ⟨vq, vr, rfl, kxq, kxr, q4⟩
      replace kxa1 := kxa1.below q4
      replace kxx := kxx.below q4
      replace kxa2 := kxa2.below q4
      replace kB := kB.trans (q4.mono kB.size)
      replace kd2 := kd2.below q4
      replace kd3 := kd3.below q4
      replace kd4 := kd4.below q4
      clear q4
      try go_wp2_with fail
      refine hK.out _ _ ?_ (fun hHeld => ?_)
      · exact ⟨kB, kd2, kd3⟩
      clear hK K
      try simp only [Act.put, List.setIfInBounds_toArray, List.set_cons_zero, List.set_cons_succ]
      refine wpAnyH_take (i := 14) (v := ?_) (by simp only [List.getElem?_toArray, List.getElem?_cons_succ, List.getElem?_cons_zero]; rfl) (by kernel_rfl) (by kernel_rfl) (by kernel_rfl) (fun _ _ _ h => h) (Or.inl ⟨by rfl, ?_⟩) hHeld ?_
      rotate_left
      · intro x hSw; first | (go_simp; done) | (go_simp; with_reducible rfl)
      try simp only [Act.put, List.setIfInBounds_toArray, List.set_cons_zero, List.set_cons_succ]
      refine wpAnyH_take (i := 15) (v := ?_) (by simp only [List.getElem?_toArray, List.getElem?_cons_succ, List.getElem?_cons_zero]; rfl) (by kernel_rfl) (by kernel_rfl) (by kernel_rfl) (fun _ _ _ h => h) (Or.inl ⟨by rfl, ?_⟩) hHeld ?_
      rotate_left
      · intro x hSw; first | (go_simp; done) | (go_simp; with_reducible rfl)
      try simp only [Act.put, List.setIfInBounds_toArray, List.set_cons_zero, List.set_cons_succ]
      refine wpAnyH_take (i := 16) (v := ?_) (by simp only [List.getElem?_toArray, List.getElem?_cons_succ, List.getElem?_cons_zero]; rfl) (by kernel_rfl) (by kernel_rfl) (by kernel_rfl) (fun _ _ _ h => h) (Or.inl ⟨by rfl, ?_⟩) hHeld ?_
      rotate_left
      · intro x hSw; first | (go_simp; done) | (go_simp; with_reducible rfl)
      try simp only [Act.put, List.setIfInBounds_toArray, List.set_cons_zero, List.set_cons_succ]
      refine wpAnyH_take (i := 17) (v := ?_) (by simp only [List.getElem?_toArray, List.getElem?_cons_succ, List.getElem?_cons_zero]; rfl) (by kernel_rfl) (by kernel_rfl) (by kernel_rfl) (fun _ _ _ h => h) (Or.inl ⟨by rfl, ?_⟩) hHeld ?_
      rotate_left
      · intro x hSw; first | (go_simp; done) | (go_simp; with_reducible rfl)
      try simp only [Act.put, List.setIfInBounds_toArray, List.set_cons_zero, List.set_cons_succ]
      refine wpAnyH_take (i := 18) (v := ?_) (by simp only [List.getElem?_toArray, List.getElem?_cons_succ, List.getElem?_cons_zero]; rfl) (by kernel_rfl) (by kernel_rfl) (by kernel_rfl) (fun _ _ _ h => h) (Or.inl ⟨by rfl, ?_⟩) hHeld ?_
      rotate_left
      · intro x hSw; first | (go_simp; done) | (go_simp; with_reducible rfl)
      try simp only [Act.put, List.setIfInBounds_toArray, List.set_cons_zero, List.set_cons_succ]
      refine wpAnyH_done (by kernel_rfl) ?_ _
      refine NoPanic.normal ?_
      clear kxa1 kxx kxa2 ha1 ha2 ht hq
      obtain ⟨Ar, capr, rfl, hr1, hr2, hr3⟩ := kxr
      clear hr3 hr2
      obtain ⟨Z, hZ⟩ : ∃ Z, Z = (digs (X % Y)).length := ⟨_, rfl⟩
      rw [← hZ] at hr1 hz0 ⊢
      clear hZ
      by_cases hzz : Z = 0
      · subst hzz
        have hov := Lib.hid (hov1.out (hz0.out.1 rfl))
        obtain ⟨a, b, c, hab⟩ := normV_form (decOf (!(decide (m < 0) == decide (n < 0))) (X / Y) 18)
        have hres : Hid (normV (overO m s n t) = .tuple #[dv2 a b, .bool c]) := by show _ = _; rw [hov.out, hab]
        rw [hab] at hdc
        clear hov1 hov0 hz0 hov hab hr1
        have c0d2 := kd2.c0; have c1d2 := kd2.c1; have c0d3 := kd3.c0; have c1d3 := kd3.c1
        go_wp2_with fail
        clear c0d2 c1d2 c0d3 c1d3
        refine (hdc.out _ _ kxq).mono ?_; rintro e w6 ⟨rfl, b6⟩
        replace kB := kB.trans (b6.mono kB.size)
        replace kd4 := kd4.below b6
        clear b6 hdc kxq
        have sc0 := kd4.c0
        have sc1 := kd4.c1
        have sf0 := kd4.f0
        have sf1 := kd4.f1
        go_wp2_with fail
        refine bodyPost_ret (v := .tuple #[dv2 a b, .bool c]) (by simp [results, Try.results14, go_sem, sc0, sc1, sf0, sf1]) rfl ⟨by rw [hres.out], ?_⟩
        repeat (refine Below.setCell ?_ (by first | (simp; done) | (simp; omega)) _)
        exact kB
      · have hov := Lib.hid (hov0.out (fun e => hzz (hz0.out.2 e)))
        have hres : Hid (overO m s n t = none) := hov.out
        have hzp : 0 < (Z : Int) := by omega
        clear hov1 hov0 hz0 hov hdc hr1
        have sc0 := kd4.c0
        have sc1 := kd4.c1
        have sf0 := kd4.f0
        have sf1 := kd4.f1
        go_wp2_with fail
        refine bodyPost_ret (v := normV none) (by simp [results, Try.results14, go_sem, normV, sc0, sc1, sf0, sf1]) rfl ⟨by rw [hres.out], ?_⟩
        repeat (refine Below.setCell ?_ (by first | (simp; done) | (simp; omega)) _)
        exact kB

end Go.Proofs.Ytpciohnnnpgpiaa
