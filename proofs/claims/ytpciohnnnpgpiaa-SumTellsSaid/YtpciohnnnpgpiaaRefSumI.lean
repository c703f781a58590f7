/- The reference's Compare. -/
import Derived.Test.YtpciohnnnpgpiaaRefSumH
import Derived.Deep.DeepCutAuto
set_option linter.unusedVariables false
set_option linter.unusedSimpArgs false
namespace Go.Proofs.Ytpciohnnnpgpiaa
open Go.RowKit Dc
attribute [local go_sem ↓] Go.wp_at_zero Go.wp_at_succ

theorem ord_nn {m s n t : Int} (h : m < 0) (k : n < 0) : cmpN (digs (lev n t)) (digs (lev m s)) = ord3 (zv m s) (zv n t) := by
  rw [cmp_digs, zv_is, zv_is, if_pos h, if_pos k]; unfold ord3
  split <;> split <;> first | rfl | omega | (split <;> first | rfl | omega)
theorem ord_pp {m s n t : Int} (h : ¬ m < 0) (k : ¬ n < 0) : cmpN (digs (lev m s)) (digs (lev n t)) = ord3 (zv m s) (zv n t) := by
  rw [cmp_digs, zv_is, zv_is, if_neg h, if_neg k]; unfold ord3
  split <;> split <;> first | rfl | omega | (split <;> first | rfl | omega)
theorem ord_np {m s n t : Int} (h : m < 0) (k : ¬ n < 0) : ord3 (zv m s) (zv n t) = -1 := ord3_lt (by have h1 := (zv_neg m s).2 h; have h2 : ¬ zv n t < 0 := fun e => k ((zv_neg n t).1 e); omega)
theorem ord_pn {m s n t : Int} (h : ¬ m < 0) (k : n < 0) : ord3 (zv m s) (zv n t) = 1 := ord3_gt (by have h1 := (zv_neg n t).2 k; have h2 : ¬ zv m s < 0 := fun e => h ((zv_neg m s).1 e); omega)
set_option maxRecDepth 100000 in
set_option maxHeartbeats 16000000 in
theorem rcmp_walk (m s n t : Int) (w : World) (hm1 : -9223372036854775808 ≤ m) (hm2 : m ≤ 9223372036854775807) (hn1 : -9223372036854775808 ≤ n) (hn2 : n ≤ 9223372036854775807) :
    Calls Try.prog 18 #[dv2 m s, dv2 n t] w fun e w' => e = .returned (.int .i64 (cmpO m s n t)) ∧ Below w.heap.size w w' := by
  have kB := kb_alloc (kb_alloc (Below.refl w.heap.size w) (Nat.le_refl _) (.cells #[.int .i64 m, .int .i64 s] 25)) (Nat.le_refl _) (.cells #[.int .i64 n, .int .i64 t] 25)
  have kd2 := (DecAt.new w m s).alloc (.cells #[.int .i64 n, .int .i64 t] 25)
  have kd3 := DecAt.new (w.alloc (.cells #[.int .i64 m, .int .i64 s] 25)) n t
  rw [show (w.alloc (.cells #[.int .i64 m, .int .i64 s] 25)).heap.size = w.heap.size + 1 by simp] at kd3
  go_enter Try.func18, Try.ntmps18
  go_wp2_with fail
  refine (rgood_calls m s _).mono ?_; rintro e w1 ⟨rfl, b1⟩
  replace kB := kB.trans (b1.mono kB.size)
  replace kd2 := kd2.below b1
  replace kd3 := kd3.below b1
  clear b1
  cases hga : goodD m s with
  | false =>
    have Hga := Lib.hid hga
    clear hga
    have c0d2 := kd2.c0; have c1d2 := kd2.c1; have c0d3 := kd3.c0; have c1d3 := kd3.c1
    have f0d2 := kd2.f0; have f1d2 := kd2.f1; have f0d3 := kd3.f0; have f1d3 := kd3.f1
    have HH := Lib.hid (⟨below_put (g := w.heap.size) kB (by omega) 0 0, kd2.put 0 0, kd3.putOther (g := w.heap.size) (by omega) 0 0⟩ : _ ∧ _ ∧ _)
    clear kB kd2 kd3
    unfold putDec at HH
    go_wp2_with fail
    clear c0d2 c1d2 c0d3 c1d3
    clear f0d2 f1d2 f0d3 f1d3
    obtain ⟨kB, kd2, kd3⟩ := HH.out
    clear HH
    refine (rgood_calls n t _).mono ?_; rintro e w2 ⟨rfl, b2⟩
    replace kB := kB.trans (b2.mono kB.size)
    replace kd2 := kd2.below b2
    replace kd3 := kd3.below b2
    clear b2
    cases hgb : goodD n t with
    | false =>
      have Hgb := Lib.hid hgb
      clear hgb
      have c0d2 := kd2.c0; have c1d2 := kd2.c1; have c0d3 := kd3.c0; have c1d3 := kd3.c1
      have f0d2 := kd2.f0; have f1d2 := kd2.f1; have f0d3 := kd3.f0; have f1d3 := kd3.f1
      have HH := Lib.hid (⟨below_put (g := w.heap.size + 1) kB (by omega) 0 0, kd2.putOther (g := w.heap.size + 1) (by omega) 0 0, kd3.put 0 0⟩ : _ ∧ _ ∧ _)
      clear kB kd2 kd3
      unfold putDec at HH
      go_upto_region 5 with (fail)
      clear c0d2 c1d2 c0d3 c1d3
      clear f0d2 f1d2 f0d3 f1d3
      obtain ⟨W5, hW5⟩ : ∃ W5 : World, W5 = (w2.setCell ⟨w.heap.size + 1, 0, none⟩ (.int .i64 0)).setCell ⟨w.heap.size + 1, 1, none⟩ (.int .i64 0) := ⟨_, rfl⟩
      rw [← hW5] at HH ⊢
      obtain ⟨kB, kd2, kd3⟩ := HH.out
      clear HH hW5
      have ha1 := Lib.hid (fun W => ramount_calls 0 W (by decide) (by decide))
      have ha2 := Lib.hid (fun W => ramount_calls 0 W (by decide) (by decide))
      have ht1 := Lib.hid (fun W v hv => rtens_lev 0 0 v W hv (by decide) (by decide) (by decide))
      rw [show (18 - 0 : Int) = 18 from rfl] at ht1
      have ht2 := Lib.hid (fun W v hv => rtens_lev 0 0 v W hv (by decide) (by decide) (by decide))
      rw [show (18 - 0 : Int) = 18 from rfl] at ht2
      have hcmp : cmpO m s n t = ord3 (zv 0 0) (zv 0 0) := by unfold cmpO; rw [orZ_bad Hga.out, orZ_bad Hgb.out]
      have Hnn : Hid ((0 : Int) < 0 → (0 : Int) < 0 → cmpN (digs (lev 0 0)) (digs (lev 0 0)) = cmpO m s n t) := fun h k => by rw [hcmp]; exact ord_nn h k
      have Hpp : Hid (¬ (0 : Int) < 0 → ¬ (0 : Int) < 0 → cmpN (digs (lev 0 0)) (digs (lev 0 0)) = cmpO m s n t) := fun h k => by rw [hcmp]; exact ord_pp h k
      have Hnp : Hid ((0 : Int) < 0 → ¬ (0 : Int) < 0 → cmpO m s n t = -1) := fun h k => by rw [hcmp]; exact ord_np h k
      have Hpn : Hid (¬ (0 : Int) < 0 → (0 : Int) < 0 → cmpO m s n t = 1) := fun h k => by rw [hcmp]; exact ord_pn h k
      obtain ⟨x, hx⟩ : ∃ x, x = lev 0 0 := ⟨_, rfl⟩
      obtain ⟨y, hy⟩ : ∃ y, y = lev 0 0 := ⟨_, rfl⟩
      obtain rfl : y = x := hy.trans hx.symm
      rw [← hx] at ht1 ht2 Hnn Hpp
      clear hcmp hx Hga Hgb hm1 hm2 hn1 hn2
      refine wp_region_noPanic ?_
      refine wp_region_held_drew (S := fun X => Below w.heap.size w X ∧ DecAt X (w.heap.size) 0 0 ∧ DecAt X (w.heap.size + 1) 0 0) (by kernel_rfl) ?_ (fun hHeld => ?_)
      · exact ⟨Below.drew kB, DecAt.drew kd2, DecAt.drew kd3⟩
      replace kB := Below.drew kB
      replace kd2 := DecAt.drew kd2
      replace kd3 := DecAt.drew kd3
      obtain ⟨qw, hcur⟩ : ∃ uu, uu = W5.drew := ⟨_, rfl⟩
      rw [← hcur] at hHeld kB kd2 kd3 ⊢
      clear hcur
      refine wpAnyH_take (i := 0) (v := ?_) (by simp only [List.getElem?_toArray, List.getElem?_cons_succ, List.getElem?_cons_zero]; rfl) (by kernel_rfl) (by kernel_rfl) (by kernel_rfl) (fun _ _ _ h => h) (Or.inl ⟨by rfl, ?_⟩) hHeld ?_
      rotate_left
      · intro x hSw; first | (go_simp; done) | (go_simp; with_reducible rfl)
      try simp only [Act.put, List.setIfInBounds_toArray, List.set_cons_zero, List.set_cons_succ]
      refine wpAnyH_take (i := 1) (v := ?_) (by simp only [List.getElem?_toArray, List.getElem?_cons_succ, List.getElem?_cons_zero]; rfl) (by kernel_rfl) (by kernel_rfl) (by kernel_rfl) (fun _ _ _ h => h) (Or.inl ⟨by rfl, ?_⟩) hHeld ?_
      rotate_left
      · intro x hSw; (try dsimp only at hSw); obtain ⟨_, hd2, hd3⟩ := hSw; have c0d2 := hd2.c0; have c1d2 := hd2.c1; have c0d3 := hd3.c0; have c1d3 := hd3.c1; first | (go_simp; done) | (go_simp; with_reducible rfl)
      try simp only [Act.put, List.setIfInBounds_toArray, List.set_cons_zero, List.set_cons_succ]
      refine wpAnyH_take (i := 3) (v := ?_) (by simp only [List.getElem?_toArray, List.getElem?_cons_succ, List.getElem?_cons_zero]; rfl) (by kernel_rfl) (by kernel_rfl) (by kernel_rfl) (fun _ _ _ h => h) (Or.inl ⟨by rfl, ?_⟩) hHeld ?_
      rotate_left
      · intro x hSw; first | (go_simp; done) | (go_simp; with_reducible rfl)
      try simp only [Act.put, List.setIfInBounds_toArray, List.set_cons_zero, List.set_cons_succ]
      refine wpAnyH_take (i := 4) (v := ?_) (by simp only [List.getElem?_toArray, List.getElem?_cons_succ, List.getElem?_cons_zero]; rfl) (by kernel_rfl) (by kernel_rfl) (by kernel_rfl) (fun _ _ _ h => h) (Or.inl ⟨by rfl, ?_⟩) hHeld ?_
      rotate_left
      · intro x hSw; (try dsimp only at hSw); obtain ⟨_, hd2, hd3⟩ := hSw; have c0d2 := hd2.c0; have c1d2 := hd2.c1; have c0d3 := hd3.c0; have c1d3 := hd3.c1; first | (go_simp; done) | (go_simp; with_reducible rfl)
      try simp only [Act.put, List.setIfInBounds_toArray, List.set_cons_zero, List.set_cons_succ]
      refine wpAnyH_take (i := 5) (v := ?_) (by simp only [List.getElem?_toArray, List.getElem?_cons_succ, List.getElem?_cons_zero]; rfl) (by kernel_rfl) (by kernel_rfl) (by kernel_rfl) (fun _ _ _ h => h) (Or.inl ⟨by rfl, ?_⟩) hHeld ?_
      rotate_left
      · intro x hSw; first | (go_simp; done) | (go_simp; with_reducible rfl)
      try simp only [Act.put, List.setIfInBounds_toArray, List.set_cons_zero, List.set_cons_succ]
      refine wpAnyH_take (i := 7) (v := ?_) (by simp only [List.getElem?_toArray, List.getElem?_cons_succ, List.getElem?_cons_zero]; rfl) (by kernel_rfl) (by kernel_rfl) (by kernel_rfl) (fun _ _ _ h => h) (Or.inl ⟨by rfl, ?_⟩) hHeld ?_
      rotate_left
      · intro x hSw; first | (go_simp; done) | (go_simp; with_reducible rfl)
      try simp only [Act.put, List.setIfInBounds_toArray, List.set_cons_zero, List.set_cons_succ]
      refine wpAnyH_take (i := 8) (v := ?_) (by simp only [List.getElem?_toArray, List.getElem?_cons_succ, List.getElem?_cons_zero]; rfl) (by kernel_rfl) (by kernel_rfl) (by kernel_rfl) (fun _ _ _ h => h) (Or.inl ⟨by rfl, ?_⟩) hHeld ?_
      rotate_left
      · intro x hSw; (try dsimp only at hSw); obtain ⟨_, hd2, hd3⟩ := hSw; have c0d2 := hd2.c0; have c1d2 := hd2.c1; have c0d3 := hd3.c0; have c1d3 := hd3.c1; first | (go_simp; done) | (go_simp; with_reducible rfl)
      try simp only [Act.put, List.setIfInBounds_toArray, List.set_cons_zero, List.set_cons_succ]
      refine wpAnyH_take (i := 10) (v := ?_) (by simp only [List.getElem?_toArray, List.getElem?_cons_succ, List.getElem?_cons_zero]; rfl) (by kernel_rfl) (by kernel_rfl) (by kernel_rfl) (fun _ _ _ h => h) (Or.inl ⟨by rfl, ?_⟩) hHeld ?_
      rotate_left
      · intro x hSw; first | (go_simp; done) | (go_simp; with_reducible rfl)
      try simp only [Act.put, List.setIfInBounds_toArray, List.set_cons_zero, List.set_cons_succ]
      refine wpAnyH_take (i := 11) (v := ?_) (by simp only [List.getElem?_toArray, List.getElem?_cons_succ, List.getElem?_cons_zero]; rfl) (by kernel_rfl) (by kernel_rfl) (by kernel_rfl) (fun _ _ _ h => h) (Or.inl ⟨by rfl, ?_⟩) hHeld ?_
      rotate_left
      · intro x hSw; (try dsimp only at hSw); obtain ⟨_, hd2, hd3⟩ := hSw; have c0d2 := hd2.c0; have c1d2 := hd2.c1; have c0d3 := hd3.c0; have c1d3 := hd3.c1; first | (go_simp; done) | (go_simp; with_reducible rfl)
      try simp only [Act.put, List.setIfInBounds_toArray, List.set_cons_zero, List.set_cons_succ]
      refine wpAnyH_take (i := 12) (v := ?_) (by simp only [List.getElem?_toArray, List.getElem?_cons_succ, List.getElem?_cons_zero]; rfl) (by kernel_rfl) (by kernel_rfl) (by kernel_rfl) (fun _ _ _ h => h) (Or.inl ⟨by rfl, ?_⟩) hHeld ?_
      rotate_left
      · intro x hSw; first | (go_simp; done) | (go_simp; with_reducible rfl)
      try simp only [Act.put, List.setIfInBounds_toArray, List.set_cons_zero, List.set_cons_succ]
      refine wpAnyH_ready (rs := [2]) (by kernel_rfl) (by simp) ?_
      refine AllReadyH.cons (by simp only [List.getElem?_toArray, List.getElem?_cons_succ, List.getElem?_cons_zero]; rfl) (fun K hK => ?_) AllReadyH.nil
      try go_simp
      refine (ha1.out _).mono ?_; rintro e wq1 ⟨va1, rfl, kxa1, q1⟩
      replace kB := kB.trans (q1.mono kB.size)
      replace kd2 := kd2.below q1
      replace kd3 := kd3.below q1
      clear q1
      try go_wp2_with fail
      refine hK.out _ _ ?_ (fun hHeld => ?_)
      · exact ⟨kB, kd2, kd3⟩
      clear hK K
      try simp only [Act.put, List.setIfInBounds_toArray, List.set_cons_zero, List.set_cons_succ]
      refine wpAnyH_ready (rs := [6]) (by kernel_rfl) (by simp) ?_
      refine AllReadyH.cons (by simp only [List.getElem?_toArray, List.getElem?_cons_succ, List.getElem?_cons_zero]; rfl) (fun K hK => ?_) AllReadyH.nil
      try go_simp
      refine (ht1.out _ _ kxa1).mono ?_; rintro e wq2 ⟨vtx, rfl, kxtx, q2⟩
      replace kxa1 := kxa1.below q2
      replace kB := kB.trans (q2.mono kB.size)
      replace kd2 := kd2.below q2
      replace kd3 := kd3.below q2
      clear q2
      try go_wp2_with fail
      refine hK.out _ _ ?_ (fun hHeld => ?_)
      · exact ⟨kB, kd2, kd3⟩
      clear hK K
      try simp only [Act.put, List.setIfInBounds_toArray, List.set_cons_zero, List.set_cons_succ]
      refine wpAnyH_ready (rs := [9]) (by kernel_rfl) (by simp) ?_
      refine AllReadyH.cons (by simp only [List.getElem?_toArray, List.getElem?_cons_succ, List.getElem?_cons_zero]; rfl) (fun K hK => ?_) AllReadyH.nil
      try go_simp
      refine (ha2.out _).mono ?_; rintro e wq3 ⟨va2, rfl, kxa2, q3⟩
      replace kxa1 := kxa1.below q3
      replace kxtx := kxtx.below q3
      replace kB := kB.trans (q3.mono kB.size)
      replace kd2 := kd2.below q3
      replace kd3 := kd3.below q3
      clear q3
      try go_wp2_with fail
      refine hK.out _ _ ?_ (fun hHeld => ?_)
      · exact ⟨kB, kd2, kd3⟩
      clear hK K
      try simp only [Act.put, List.setIfInBounds_toArray, List.set_cons_zero, List.set_cons_succ]
      refine wpAnyH_ready (rs := [13]) (by kernel_rfl) (by simp) ?_
      refine AllReadyH.cons (by simp only [List.getElem?_toArray, List.getElem?_cons_succ, List.getElem?_cons_zero]; rfl) (fun K hK => ?_) AllReadyH.nil
      try go_simp
      refine (ht2.out _ _ kxa2).mono ?_; rintro e wq4 ⟨vty, rfl, kxty, q4⟩
      replace kxa1 := kxa1.below q4
      replace kxtx := kxtx.below q4
      replace kxa2 := kxa2.below q4
      replace kB := kB.trans (q4.mono kB.size)
      replace kd2 := kd2.below q4
      replace kd3 := kd3.below q4
      clear q4
      try go_wp2_with fail
      refine hK.out _ _ ?_ (fun hHeld => ?_)
      · exact ⟨kB, kd2, kd3⟩
      clear hK K
      try simp only [Act.put, List.setIfInBounds_toArray, List.set_cons_zero, List.set_cons_succ]
      refine wpAnyH_take (i := 14) (v := ?_) (by simp only [List.getElem?_toArray, List.getElem?_cons_succ, List.getElem?_cons_zero]; rfl) (by kernel_rfl) (by kernel_rfl) (by kernel_rfl) (fun _ _ _ h => h) (Or.inl ⟨by rfl, ?_⟩) hHeld ?_
      rotate_left
      · intro x hSw; first | (go_simp; done) | (go_simp; with_reducible rfl)
      try simp only [Act.put, List.setIfInBounds_toArray, List.set_cons_zero, List.set_cons_succ]
      refine wpAnyH_take (i := 15) (v := ?_) (by simp only [List.getElem?_toArray, List.getElem?_cons_succ, List.getElem?_cons_zero]; rfl) (by kernel_rfl) (by kernel_rfl) (by kernel_rfl) (fun _ _ _ h => h) (Or.inl ⟨by rfl, ?_⟩) hHeld ?_
      rotate_left
      · intro x hSw; first | (go_simp; done) | (go_simp; with_reducible rfl)
      try simp only [Act.put, List.setIfInBounds_toArray, List.set_cons_zero, List.set_cons_succ]
      refine wpAnyH_done (by kernel_rfl) ?_ _
      refine NoPanic.normal ?_
      clear kxa1 kxa2 ha1 ha2 ht1 ht2
      have c0d2 := kd2.c0; have c1d2 := kd2.c1; have c0d3 := kd3.c0; have c1d3 := kd3.c1
      have hr := Lib.hid (Hpp.out (by omega) (by omega))
      have hc := Lib.hid (fun W hv hu => rcompare_calls (digs y) (digs y) vtx vty W hv hu)
      clear Hnn Hnp Hpn Hpp
      rw [hr.out] at hc
      obtain ⟨oo, ho⟩ : ∃ oo, oo = cmpO m s n t := ⟨_, rfl⟩
      rw [← ho] at hc
      have hoo := Lib.hid ho
      clear hr ho
      go_wp2_with fail
      refine (hc.out _ kxtx kxty).mono ?_; rintro e w6 ⟨rfl, b6⟩
      replace kB := kB.trans (b6.mono kB.size)
      go_wp2_with fail
      go_ret
      exact ⟨by rw [← hoo.out]; rfl, kB⟩
    | true =>
      have Hgb := Lib.hid hgb
      clear hgb
      have ha1 := Lib.hid (fun W => ramount_calls 0 W (by decide) (by decide))
      have ha2 := Lib.hid (fun W => ramount_calls n W hn1 hn2)
      have ht1 := Lib.hid (fun W v hv => rtens_lev 0 0 v W hv (by decide) (by decide) (by decide))
      rw [show (18 - 0 : Int) = 18 from rfl] at ht1
      have hn := big_of Hgb.out hn1 hn2
      obtain ⟨gt0, gt1, _, _⟩ := (goodD_iff n t).1 Hgb.out
      have ht2 := Lib.hid (fun W v hv => rtens_lev n t v W hv hn gt0 gt1)
      have hw2 : IntKind.i64.wrap (18 - t) = 18 - t := IntWalk.i64_in _ (by omega)
      clear hn
      have hcmp : cmpO m s n t = ord3 (zv 0 0) (zv n t) := by unfold cmpO; rw [orZ_bad Hga.out, orZ_good Hgb.out]
      have Hnn : Hid ((0 : Int) < 0 → (n : Int) < 0 → cmpN (digs (lev n t)) (digs (lev 0 0)) = cmpO m s n t) := fun h k => by rw [hcmp]; exact ord_nn h k
      have Hpp : Hid (¬ (0 : Int) < 0 → ¬ (n : Int) < 0 → cmpN (digs (lev 0 0)) (digs (lev n t)) = cmpO m s n t) := fun h k => by rw [hcmp]; exact ord_pp h k
      have Hnp : Hid ((0 : Int) < 0 → ¬ (n : Int) < 0 → cmpO m s n t = -1) := fun h k => by rw [hcmp]; exact ord_np h k
      have Hpn : Hid (¬ (0 : Int) < 0 → (n : Int) < 0 → cmpO m s n t = 1) := fun h k => by rw [hcmp]; exact ord_pn h k
      obtain ⟨x, hx⟩ : ∃ x, x = lev 0 0 := ⟨_, rfl⟩
      obtain ⟨y, hy⟩ : ∃ y, y = lev n t := ⟨_, rfl⟩
      rw [← hx] at ht1 Hnn Hpp
      try rw [← hy] at ht2
      try rw [← hy] at Hnn Hpp
      clear hcmp hx hy Hga Hgb hm1 hm2 hn1 hn2
      have c0d2 := kd2.c0; have c1d2 := kd2.c1; have c0d3 := kd3.c0; have c1d3 := kd3.c1
      go_upto_region 5 with (fail)
      clear c0d2 c1d2 c0d3 c1d3
      refine wp_region_noPanic ?_
      refine wp_region_held_drew (S := fun X => Below w.heap.size w X ∧ DecAt X (w.heap.size) 0 0 ∧ DecAt X (w.heap.size + 1) n t) (by kernel_rfl) ?_ (fun hHeld => ?_)
      · exact ⟨Below.drew kB, DecAt.drew kd2, DecAt.drew kd3⟩
      replace kB := Below.drew kB
      replace kd2 := DecAt.drew kd2
      replace kd3 := DecAt.drew kd3
      obtain ⟨qw, hcur⟩ : ∃ uu, uu = w2.drew := ⟨_, rfl⟩
      rw [← hcur] at hHeld kB kd2 kd3 ⊢
      clear hcur
      refine wpAnyH_take (i := 0) (v := ?_) (by simp only [List.getElem?_toArray, List.getElem?_cons_succ, List.getElem?_cons_zero]; rfl) (by kernel_rfl) (by kernel_rfl) (by kernel_rfl) (fun _ _ _ h => h) (Or.inl ⟨by rfl, ?_⟩) hHeld ?_
      rotate_left
      · intro x hSw; first | (go_simp; done) | (go_simp; with_reducible rfl)
      try simp only [Act.put, List.setIfInBounds_toArray, List.set_cons_zero, List.set_cons_succ]
      refine wpAnyH_take (i := 1) (v := ?_) (by simp only [List.getElem?_toArray, List.getElem?_cons_succ, List.getElem?_cons_zero]; rfl) (by kernel_rfl) (by kernel_rfl) (by kernel_rfl) (fun _ _ _ h => h) (Or.inl ⟨by rfl, ?_⟩) hHeld ?_
      rotate_left
      · intro x hSw; (try dsimp only at hSw); obtain ⟨_, hd2, hd3⟩ := hSw; have c0d2 := hd2.c0; have c1d2 := hd2.c1; have c0d3 := hd3.c0; have c1d3 := hd3.c1; first | (go_simp; done) | (go_simp; with_reducible rfl)
      try simp only [Act.put, List.setIfInBounds_toArray, List.set_cons_zero, List.set_cons_succ]
      refine wpAnyH_take (i := 3) (v := ?_) (by simp only [List.getElem?_toArray, List.getElem?_cons_succ, List.getElem?_cons_zero]; rfl) (by kernel_rfl) (by kernel_rfl) (by kernel_rfl) (fun _ _ _ h => h) (Or.inl ⟨by rfl, ?_⟩) hHeld ?_
      rotate_left
      · intro x hSw; first | (go_simp; done) | (go_simp; with_reducible rfl)
      try simp only [Act.put, List.setIfInBounds_toArray, List.set_cons_zero, List.set_cons_succ]
      refine wpAnyH_take (i := 4) (v := ?_) (by simp only [List.getElem?_toArray, List.getElem?_cons_succ, List.getElem?_cons_zero]; rfl) (by kernel_rfl) (by kernel_rfl) (by kernel_rfl) (fun _ _ _ h => h) (Or.inl ⟨by rfl, ?_⟩) hHeld ?_
      rotate_left
      · intro x hSw; (try dsimp only at hSw); obtain ⟨_, hd2, hd3⟩ := hSw; have c0d2 := hd2.c0; have c1d2 := hd2.c1; have c0d3 := hd3.c0; have c1d3 := hd3.c1; first | (go_simp; done) | (go_simp; with_reducible rfl)
      try simp only [Act.put, List.setIfInBounds_toArray, List.set_cons_zero, List.set_cons_succ]
      refine wpAnyH_take (i := 5) (v := ?_) (by simp only [List.getElem?_toArray, List.getElem?_cons_succ, List.getElem?_cons_zero]; rfl) (by kernel_rfl) (by kernel_rfl) (by kernel_rfl) (fun _ _ _ h => h) (Or.inl ⟨by rfl, ?_⟩) hHeld ?_
      rotate_left
      · intro x hSw; first | (go_simp; done) | (go_simp; with_reducible rfl)
      try simp only [Act.put, List.setIfInBounds_toArray, List.set_cons_zero, List.set_cons_succ]
      refine wpAnyH_take (i := 7) (v := ?_) (by simp only [List.getElem?_toArray, List.getElem?_cons_succ, List.getElem?_cons_zero]; rfl) (by kernel_rfl) (by kernel_rfl) (by kernel_rfl) (fun _ _ _ h => h) (Or.inl ⟨by rfl, ?_⟩) hHeld ?_
      rotate_left
      · intro x hSw; first | (go_simp; done) | (go_simp; with_reducible rfl)
      try simp only [Act.put, List.setIfInBounds_toArray, List.set_cons_zero, List.set_cons_succ]
      refine wpAnyH_take (i := 8) (v := ?_) (by simp only [List.getElem?_toArray, List.getElem?_cons_succ, List.getElem?_cons_zero]; rfl) (by kernel_rfl) (by kernel_rfl) (by kernel_rfl) (fun _ _ _ h => h) (Or.inl ⟨by rfl, ?_⟩) hHeld ?_
      rotate_left
      · intro x hSw; (try dsimp only at hSw); obtain ⟨_, hd2, hd3⟩ := hSw; have c0d2 := hd2.c0; have c1d2 := hd2.c1; have c0d3 := hd3.c0; have c1d3 := hd3.c1; first | (go_simp; done) | (go_simp; with_reducible rfl)
      try simp only [Act.put, List.setIfInBounds_toArray, List.set_cons_zero, List.set_cons_succ]
      refine wpAnyH_take (i := 10) (v := ?_) (by simp only [List.getElem?_toArray, List.getElem?_cons_succ, List.getElem?_cons_zero]; rfl) (by kernel_rfl) (by kernel_rfl) (by kernel_rfl) (fun _ _ _ h => h) (Or.inl ⟨by rfl, ?_⟩) hHeld ?_
      rotate_left
      · intro x hSw; first | (go_simp; done) | (go_simp; with_reducible rfl)
      try simp only [Act.put, List.setIfInBounds_toArray, List.set_cons_zero, List.set_cons_succ]
      refine wpAnyH_take (i := 11) (v := ?_) (by simp only [List.getElem?_toArray, List.getElem?_cons_succ, List.getElem?_cons_zero]; rfl) (by kernel_rfl) (by kernel_rfl) (by kernel_rfl) (fun _ _ _ h => h) (Or.inl ⟨by rfl, ?_⟩) hHeld ?_
      rotate_left
      · intro x hSw; (try dsimp only at hSw); obtain ⟨_, hd2, hd3⟩ := hSw; have c0d2 := hd2.c0; have c1d2 := hd2.c1; have c0d3 := hd3.c0; have c1d3 := hd3.c1; first | (go_simp; done) | (go_simp; with_reducible rfl)
      try simp only [Act.put, List.setIfInBounds_toArray, List.set_cons_zero, List.set_cons_succ]
      refine wpAnyH_take (i := 12) (v := ?_) (by simp only [List.getElem?_toArray, List.getElem?_cons_succ, List.getElem?_cons_zero]; rfl) (by kernel_rfl) (by kernel_rfl) (by kernel_rfl) (fun _ _ _ h => h) (Or.inl ⟨by rfl, ?_⟩) hHeld ?_
      rotate_left
      · intro x hSw; first | (go_simp; done) | (go_simp; with_reducible rfl)
      try simp only [Act.put, List.setIfInBounds_toArray, List.set_cons_zero, List.set_cons_succ]
      refine wpAnyH_ready (rs := [2]) (by kernel_rfl) (by simp) ?_
      refine AllReadyH.cons (by simp only [List.getElem?_toArray, List.getElem?_cons_succ, List.getElem?_cons_zero]; rfl) (fun K hK => ?_) AllReadyH.nil
      try go_simp
      refine (ha1.out _).mono ?_; rintro e wq1 ⟨va1, rfl, kxa1, q1⟩
      replace kB := kB.trans (q1.mono kB.size)
      replace kd2 := kd2.below q1
      replace kd3 := kd3.below q1
      clear q1
      try go_wp2_with fail
      refine hK.out _ _ ?_ (fun hHeld => ?_)
      · exact ⟨kB, kd2, kd3⟩
      clear hK K
      try simp only [Act.put, List.setIfInBounds_toArray, List.set_cons_zero, List.set_cons_succ]
      refine wpAnyH_ready (rs := [6]) (by kernel_rfl) (by simp) ?_
      refine AllReadyH.cons (by simp only [List.getElem?_toArray, List.getElem?_cons_succ, List.getElem?_cons_zero]; rfl) (fun K hK => ?_) AllReadyH.nil
      try go_simp
      refine (ht1.out _ _ kxa1).mono ?_; rintro e wq2 ⟨vtx, rfl, kxtx, q2⟩
      replace kxa1 := kxa1.below q2
      replace kB := kB.trans (q2.mono kB.size)
      replace kd2 := kd2.below q2
      replace kd3 := kd3.below q2
      clear q2
      try go_wp2_with fail
      refine hK.out _ _ ?_ (fun hHeld => ?_)
      · exact ⟨kB, kd2, kd3⟩
      clear hK K
      try simp only [Act.put, List.setIfInBounds_toArray, List.set_cons_zero, List.set_cons_succ]
      refine wpAnyH_ready (rs := [9]) (by kernel_rfl) (by simp) ?_
      refine AllReadyH.cons (by simp only [List.getElem?_toArray, List.getElem?_cons_succ, List.getElem?_cons_zero]; rfl) (fun K hK => ?_) AllReadyH.nil
      try go_simp
      refine (ha2.out _).mono ?_; rintro e wq3 ⟨va2, rfl, kxa2, q3⟩
      replace kxa1 := kxa1.below q3
      replace kxtx := kxtx.below q3
      replace kB := kB.trans (q3.mono kB.size)
      replace kd2 := kd2.below q3
      replace kd3 := kd3.below q3
      clear q3
      try go_wp2_with fail
      refine hK.out _ _ ?_ (fun hHeld => ?_)
      · exact ⟨kB, kd2, kd3⟩
      clear hK K
      try simp only [Act.put, List.setIfInBounds_toArray, List.set_cons_zero, List.set_cons_succ]
      refine wpAnyH_ready (rs := [13]) (by kernel_rfl) (by simp) ?_
      refine AllReadyH.cons (by simp only [List.getElem?_toArray, List.getElem?_cons_succ, List.getElem?_cons_zero]; rfl) (fun K hK => ?_) AllReadyH.nil
      try go_simp
      refine (ht2.out _ _ kxa2).mono ?_; rintro e wq4 ⟨vty, rfl, kxty, q4⟩
      replace kxa1 := kxa1.below q4
      replace kxtx := kxtx.below q4
      replace kxa2 := kxa2.below q4
      replace kB := kB.trans (q4.mono kB.size)
      replace kd2 := kd2.below q4
      replace kd3 := kd3.below q4
      clear q4
      try go_wp2_with fail
      refine hK.out _ _ ?_ (fun hHeld => ?_)
      · exact ⟨kB, kd2, kd3⟩
      clear hK K
      try simp only [Act.put, List.setIfInBounds_toArray, List.set_cons_zero, List.set_cons_succ]
      refine wpAnyH_take (i := 14) (v := ?_) (by simp only [List.getElem?_toArray, List.getElem?_cons_succ, List.getElem?_cons_zero]; rfl) (by kernel_rfl) (by kernel_rfl) (by kernel_rfl) (fun _ _ _ h => h) (Or.inl ⟨by rfl, ?_⟩) hHeld ?_
      rotate_left
      · intro x hSw; first | (go_simp; done) | (go_simp; with_reducible rfl)
      try simp only [Act.put, List.setIfInBounds_toArray, List.set_cons_zero, List.set_cons_succ]
      refine wpAnyH_take (i := 15) (v := ?_) (by simp only [List.getElem?_toArray, List.getElem?_cons_succ, List.getElem?_cons_zero]; rfl) (by kernel_rfl) (by kernel_rfl) (by kernel_rfl) (fun _ _ _ h => h) (Or.inl ⟨by rfl, ?_⟩) hHeld ?_
      rotate_left
      · intro x hSw; first | (go_simp; done) | (go_simp; with_reducible rfl)
      try simp only [Act.put, List.setIfInBounds_toArray, List.set_cons_zero, List.set_cons_succ]
      refine wpAnyH_done (by kernel_rfl) ?_ _
      refine NoPanic.normal ?_
      clear kxa1 kxa2 ha1 ha2 ht1 ht2
      have c0d2 := kd2.c0; have c1d2 := kd2.c1; have c0d3 := kd3.c0; have c1d3 := kd3.c1
      by_cases hn0 : n < 0
      · have dn : decide (n < 0) = true := by simpa using hn0
        have hr := Lib.hid (Hpn.out (by omega) (by omega))
        clear Hnn Hnp Hpn Hpp
        go_wp2_with fail
        go_ret
        exact ⟨by rw [hr.out]; rfl, kB⟩
      · have dn : decide (n < 0) = false := by simpa using hn0
        have hr := Lib.hid (Hpp.out (by omega) (by omega))
        have hc := Lib.hid (fun W hv hu => rcompare_calls (digs x) (digs y) vtx vty W hv hu)
        clear Hnn Hnp Hpn Hpp
        rw [hr.out] at hc
        obtain ⟨oo, ho⟩ : ∃ oo, oo = cmpO m s n t := ⟨_, rfl⟩
        rw [← ho] at hc
        have hoo := Lib.hid ho
        clear hr ho
        go_wp2_with fail
        refine (hc.out _ kxtx kxty).mono ?_; rintro e w6 ⟨rfl, b6⟩
        replace kB := kB.trans (b6.mono kB.size)
        go_wp2_with fail
        go_ret
        exact ⟨by rw [← hoo.out]; rfl, kB⟩
  | true =>
    have Hga := Lib.hid hga
    clear hga
    have c0d2 := kd2.c0; have c1d2 := kd2.c1; have c0d3 := kd3.c0; have c1d3 := kd3.c1
    go_wp2_with fail
    clear c0d2 c1d2 c0d3 c1d3
    refine (rgood_calls n t _).mono ?_; rintro e w2 ⟨rfl, b2⟩
    replace kB := kB.trans (b2.mono kB.size)
    replace kd2 := kd2.below b2
    replace kd3 := kd3.below b2
    clear b2
    cases hgb : goodD n t with
    | false =>
      have Hgb := Lib.hid hgb
      clear hgb
      have c0d2 := kd2.c0; have c1d2 := kd2.c1; have c0d3 := kd3.c0; have c1d3 := kd3.c1
      have f0d2 := kd2.f0; have f1d2 := kd2.f1; have f0d3 := kd3.f0; have f1d3 := kd3.f1
      have HH := Lib.hid (⟨below_put (g := w.heap.size + 1) kB (by omega) 0 0, kd2.putOther (g := w.heap.size + 1) (by omega) 0 0, kd3.put 0 0⟩ : _ ∧ _ ∧ _)
      clear kB kd2 kd3
      unfold putDec at HH
      go_upto_region 5 with (fail)
      clear c0d2 c1d2 c0d3 c1d3
      clear f0d2 f1d2 f0d3 f1d3
      obtain ⟨W5, hW5⟩ : ∃ W5 : World, W5 = (w2.setCell ⟨w.heap.size + 1, 0, none⟩ (.int .i64 0)).setCell ⟨w.heap.size + 1, 1, none⟩ (.int .i64 0) := ⟨_, rfl⟩
      rw [← hW5] at HH ⊢
      obtain ⟨kB, kd2, kd3⟩ := HH.out
      clear HH hW5
      have ha1 := Lib.hid (fun W => ramount_calls m W hm1 hm2)
      have ha2 := Lib.hid (fun W => ramount_calls 0 W (by decide) (by decide))
      have hm := big_of Hga.out hm1 hm2
      obtain ⟨gs0, gs1, _, _⟩ := (goodD_iff m s).1 Hga.out
      have ht1 := Lib.hid (fun W v hv => rtens_lev m s v W hv hm gs0 gs1)
      have hw1 : IntKind.i64.wrap (18 - s) = 18 - s := IntWalk.i64_in _ (by omega)
      clear hm
      have ht2 := Lib.hid (fun W v hv => rtens_lev 0 0 v W hv (by decide) (by decide) (by decide))
      rw [show (18 - 0 : Int) = 18 from rfl] at ht2
      have hcmp : cmpO m s n t = ord3 (zv m s) (zv 0 0) := by unfold cmpO; rw [orZ_good Hga.out, orZ_bad Hgb.out]
      have Hnn : Hid ((m : Int) < 0 → (0 : Int) < 0 → cmpN (digs (lev 0 0)) (digs (lev m s)) = cmpO m s n t) := fun h k => by rw [hcmp]; exact ord_nn h k
      have Hpp : Hid (¬ (m : Int) < 0 → ¬ (0 : Int) < 0 → cmpN (digs (lev m s)) (digs (lev 0 0)) = cmpO m s n t) := fun h k => by rw [hcmp]; exact ord_pp h k
      have Hnp : Hid ((m : Int) < 0 → ¬ (0 : Int) < 0 → cmpO m s n t = -1) := fun h k => by rw [hcmp]; exact ord_np h k
      have Hpn : Hid (¬ (m : Int) < 0 → (0 : Int) < 0 → cmpO m s n t = 1) := fun h k => by rw [hcmp]; exact ord_pn h k
      obtain ⟨x, hx⟩ : ∃ x, x = lev m s := ⟨_, rfl⟩
      obtain ⟨y, hy⟩ : ∃ y, y = lev 0 0 := ⟨_, rfl⟩
      rw [← hx] at ht1 Hnn Hpp
      try rw [← hy] at ht2
      try rw [← hy] at Hnn Hpp
      clear hcmp hx hy Hga Hgb hm1 hm2 hn1 hn2
      refine wp_region_noPanic ?_
      refine wp_region_held_drew (S := fun X => Below w.heap.size w X ∧ DecAt X (w.heap.size) m s ∧ DecAt X (w.heap.size + 1) 0 0) (by kernel_rfl) ?_ (fun hHeld => ?_)
      · exact ⟨Below.drew kB, DecAt.drew kd2, DecAt.drew kd3⟩
      replace kB := Below.drew kB
      replace kd2 := DecAt.drew kd2
      replace kd3 := DecAt.drew kd3
      obtain ⟨qw, hcur⟩ : ∃ uu, uu = W5.drew := ⟨_, rfl⟩
      rw [← hcur] at hHeld kB kd2 kd3 ⊢
      clear hcur
      refine wpAnyH_take (i := 0) (v := ?_) (by simp only [List.getElem?_toArray, List.getElem?_cons_succ, List.getElem?_cons_zero]; rfl) (by kernel_rfl) (by kernel_rfl) (by kernel_rfl) (fun _ _ _ h => h) (Or.inl ⟨by rfl, ?_⟩) hHeld ?_
      rotate_left
      · intro x hSw; first | (go_simp; done) | (go_simp; with_reducible rfl)
      try simp only [Act.put, List.setIfInBounds_toArray, List.set_cons_zero, List.set_cons_succ]
      refine wpAnyH_take (i := 1) (v := ?_) (by simp only [List.getElem?_toArray, List.getElem?_cons_succ, List.getElem?_cons_zero]; rfl) (by kernel_rfl) (by kernel_rfl) (by kernel_rfl) (fun _ _ _ h => h) (Or.inl ⟨by rfl, ?_⟩) hHeld ?_
      rotate_left
      · intro x hSw; (try dsimp only at hSw); obtain ⟨_, hd2, hd3⟩ := hSw; have c0d2 := hd2.c0; have c1d2 := hd2.c1; have c0d3 := hd3.c0; have c1d3 := hd3.c1; first | (go_simp; done) | (go_simp; with_reducible rfl)
      try simp only [Act.put, List.setIfInBounds_toArray, List.set_cons_zero, List.set_cons_succ]
      refine wpAnyH_take (i := 3) (v := ?_) (by simp only [List.getElem?_toArray, List.getElem?_cons_succ, List.getElem?_cons_zero]; rfl) (by kernel_rfl) (by kernel_rfl) (by kernel_rfl) (fun _ _ _ h => h) (Or.inl ⟨by rfl, ?_⟩) hHeld ?_
      rotate_left
      · intro x hSw; first | (go_simp; done) | (go_simp; with_reducible rfl)
      try simp only [Act.put, List.setIfInBounds_toArray, List.set_cons_zero, List.set_cons_succ]
      refine wpAnyH_take (i := 4) (v := ?_) (by simp only [List.getElem?_toArray, List.getElem?_cons_succ, List.getElem?_cons_zero]; rfl) (by kernel_rfl) (by kernel_rfl) (by kernel_rfl) (fun _ _ _ h => h) (Or.inl ⟨by rfl, ?_⟩) hHeld ?_
      rotate_left
      · intro x hSw; (try dsimp only at hSw); obtain ⟨_, hd2, hd3⟩ := hSw; have c0d2 := hd2.c0; have c1d2 := hd2.c1; have c0d3 := hd3.c0; have c1d3 := hd3.c1; first | (go_simp; done) | (go_simp; with_reducible rfl)
      try simp only [Act.put, List.setIfInBounds_toArray, List.set_cons_zero, List.set_cons_succ]
      refine wpAnyH_take (i := 5) (v := ?_) (by simp only [List.getElem?_toArray, List.getElem?_cons_succ, List.getElem?_cons_zero]; rfl) (by kernel_rfl) (by kernel_rfl) (by kernel_rfl) (fun _ _ _ h => h) (Or.inl ⟨by rfl, ?_⟩) hHeld ?_
      rotate_left
      · intro x hSw; first | (go_simp; done) | (go_simp; with_reducible rfl)
      try simp only [Act.put, List.setIfInBounds_toArray, List.set_cons_zero, List.set_cons_succ]
      refine wpAnyH_take (i := 7) (v := ?_) (by simp only [List.getElem?_toArray, List.getElem?_cons_succ, List.getElem?_cons_zero]; rfl) (by kernel_rfl) (by kernel_rfl) (by kernel_rfl) (fun _ _ _ h => h) (Or.inl ⟨by rfl, ?_⟩) hHeld ?_
      rotate_left
      · intro x hSw; first | (go_simp; done) | (go_simp; with_reducible rfl)
      try simp only [Act.put, List.setIfInBounds_toArray, List.set_cons_zero, List.set_cons_succ]
      refine wpAnyH_take (i := 8) (v := ?_) (by simp only [List.getElem?_toArray, List.getElem?_cons_succ, List.getElem?_cons_zero]; rfl) (by kernel_rfl) (by kernel_rfl) (by kernel_rfl) (fun _ _ _ h => h) (Or.inl ⟨by rfl, ?_⟩) hHeld ?_
      rotate_left
      · intro x hSw; (try dsimp only at hSw); obtain ⟨_, hd2, hd3⟩ := hSw; have c0d2 := hd2.c0; have c1d2 := hd2.c1; have c0d3 := hd3.c0; have c1d3 := hd3.c1; first | (go_simp; done) | (go_simp; with_reducible rfl)
      try simp only [Act.put, List.setIfInBounds_toArray, List.set_cons_zero, List.set_cons_succ]
      refine wpAnyH_take (i := 10) (v := ?_) (by simp only [List.getElem?_toArray, List.getElem?_cons_succ, List.getElem?_cons_zero]; rfl) (by kernel_rfl) (by kernel_rfl) (by kernel_rfl) (fun _ _ _ h => h) (Or.inl ⟨by rfl, ?_⟩) hHeld ?_
      rotate_left
      · intro x hSw; first | (go_simp; done) | (go_simp; with_reducible rfl)
      try simp only [Act.put, List.setIfInBounds_toArray, List.set_cons_zero, List.set_cons_succ]
      refine wpAnyH_take (i := 11) (v := ?_) (by simp only [List.getElem?_toArray, List.getElem?_cons_succ, List.getElem?_cons_zero]; rfl) (by kernel_rfl) (by kernel_rfl) (by kernel_rfl) (fun _ _ _ h => h) (Or.inl ⟨by rfl, ?_⟩) hHeld ?_
      rotate_left
      · intro x hSw; (try dsimp only at hSw); obtain ⟨_, hd2, hd3⟩ := hSw; have c0d2 := hd2.c0; have c1d2 := hd2.c1; have c0d3 := hd3.c0; have c1d3 := hd3.c1; first | (go_simp; done) | (go_simp; with_reducible rfl)
      try simp only [Act.put, List.setIfInBounds_toArray, List.set_cons_zero, List.set_cons_succ]
      refine wpAnyH_take (i := 12) (v := ?_) (by simp only [List.getElem?_toArray, List.getElem?_cons_succ, List.getElem?_cons_zero]; rfl) (by kernel_rfl) (by kernel_rfl) (by kernel_rfl) (fun _ _ _ h => h) (Or.inl ⟨by rfl, ?_⟩) hHeld ?_
      rotate_left
      · intro x hSw; first | (go_simp; done) | (go_simp; with_reducible rfl)
      try simp only [Act.put, List.setIfInBounds_toArray, List.set_cons_zero, List.set_cons_succ]
      refine wpAnyH_ready (rs := [2]) (by kernel_rfl) (by simp) ?_
      refine AllReadyH.cons (by simp only [List.getElem?_toArray, List.getElem?_cons_succ, List.getElem?_cons_zero]; rfl) (fun K hK => ?_) AllReadyH.nil
      try go_simp
      refine (ha1.out _).mono ?_; rintro e wq1 ⟨va1, rfl, kxa1, q1⟩
      replace kB := kB.trans (q1.mono kB.size)
      replace kd2 := kd2.below q1
      replace kd3 := kd3.below q1
      clear q1
      try go_wp2_with fail
      refine hK.out _ _ ?_ (fun hHeld => ?_)
      · exact ⟨kB, kd2, kd3⟩
      clear hK K
      try simp only [Act.put, List.setIfInBounds_toArray, List.set_cons_zero, List.set_cons_succ]
      refine wpAnyH_ready (rs := [6]) (by kernel_rfl) (by simp) ?_
      refine AllReadyH.cons (by simp only [List.getElem?_toArray, List.getElem?_cons_succ, List.getElem?_cons_zero]; rfl) (fun K hK => ?_) AllReadyH.nil
      try go_simp
      refine (ht1.out _ _ kxa1).mono ?_; rintro e wq2 ⟨vtx, rfl, kxtx, q2⟩
      replace kxa1 := kxa1.below q2
      replace kB := kB.trans (q2.mono kB.size)
      replace kd2 := kd2.below q2
      replace kd3 := kd3.below q2
      clear q2
      try go_wp2_with fail
      refine hK.out _ _ ?_ (fun hHeld => ?_)
      · exact ⟨kB, kd2, kd3⟩
      clear hK K
      try simp only [Act.put, List.setIfInBounds_toArray, List.set_cons_zero, List.set_cons_succ]
      refine wpAnyH_ready (rs := [9]) (by kernel_rfl) (by simp) ?_
      refine AllReadyH.cons (by simp only [List.getElem?_toArray, List.getElem?_cons_succ, List.getElem?_cons_zero]; rfl) (fun K hK => ?_) AllReadyH.nil
      try go_simp
      refine (ha2.out _).mono ?_; rintro e wq3 ⟨va2, rfl, kxa2, q3⟩
      replace kxa1 := kxa1.below q3
      replace kxtx := kxtx.below q3
      replace kB := kB.trans (q3.mono kB.size)
      replace kd2 := kd2.below q3
      replace kd3 := kd3.below q3
      clear q3
      try go_wp2_with fail
      refine hK.out _ _ ?_ (fun hHeld => ?_)
      · exact ⟨kB, kd2, kd3⟩
      clear hK K
      try simp only [Act.put, List.setIfInBounds_toArray, List.set_cons_zero, List.set_cons_succ]
      refine wpAnyH_ready (rs := [13]) (by kernel_rfl) (by simp) ?_
      refine AllReadyH.cons (by simp only [List.getElem?_toArray, List.getElem?_cons_succ, List.getElem?_cons_zero]; rfl) (fun K hK => ?_) AllReadyH.nil
      try go_simp
      refine (ht2.out _ _ kxa2).mono ?_; rintro e wq4 ⟨vty, rfl, kxty, q4⟩
      replace kxa1 := kxa1.below q4
      replace kxtx := kxtx.below q4
      replace kxa2 := kxa2.below q4
      replace kB := kB.trans (q4.mono kB.size)
      replace kd2 := kd2.below q4
      replace kd3 := kd3.below q4
      clear q4
      try go_wp2_with fail
      refine hK.out _ _ ?_ (fun hHeld => ?_)
      · exact ⟨kB, kd2, kd3⟩
      clear hK K
      try simp only [Act.put, List.setIfInBounds_toArray, List.set_cons_zero, List.set_cons_succ]
      refine wpAnyH_take (i := 14) (v := ?_) (by simp only [List.getElem?_toArray, List.getElem?_cons_succ, List.getElem?_cons_zero]; rfl) (by kernel_rfl) (by kernel_rfl) (by kernel_rfl) (fun _ _ _ h => h) (Or.inl ⟨by rfl, ?_⟩) hHeld ?_
      rotate_left
      · intro x hSw; first | (go_simp; done) | (go_simp; with_reducible rfl)
      try simp only [Act.put, List.setIfInBounds_toArray, List.set_cons_zero, List.set_cons_succ]
      refine wpAnyH_take (i := 15) (v := ?_) (by simp only [List.getElem?_toArray, List.getElem?_cons_succ, List.getElem?_cons_zero]; rfl) (by kernel_rfl) (by kernel_rfl) (by kernel_rfl) (fun _ _ _ h => h) (Or.inl ⟨by rfl, ?_⟩) hHeld ?_
      rotate_left
      · intro x hSw; first | (go_simp; done) | (go_simp; with_reducible rfl)
      try simp only [Act.put, List.setIfInBounds_toArray, List.set_cons_zero, List.set_cons_succ]
      refine wpAnyH_done (by kernel_rfl) ?_ _
      refine NoPanic.normal ?_
      clear kxa1 kxa2 ha1 ha2 ht1 ht2
      have c0d2 := kd2.c0; have c1d2 := kd2.c1; have c0d3 := kd3.c0; have c1d3 := kd3.c1
      by_cases hm0 : m < 0
      · have dm : decide (m < 0) = true := by simpa using hm0
        have hr := Lib.hid (Hnp.out (by omega) (by omega))
        clear Hnn Hnp Hpn Hpp
        go_wp2_with fail
        go_ret
        exact ⟨by rw [hr.out]; rfl, kB⟩
      · have dm : decide (m < 0) = false := by simpa using hm0
        have hr := Lib.hid (Hpp.out (by omega) (by omega))
        have hc := Lib.hid (fun W hv hu => rcompare_calls (digs x) (digs y) vtx vty W hv hu)
        clear Hnn Hnp Hpn Hpp
        rw [hr.out] at hc
        obtain ⟨oo, ho⟩ : ∃ oo, oo = cmpO m s n t := ⟨_, rfl⟩
        rw [← ho] at hc
        have hoo := Lib.hid ho
        clear hr ho
        go_wp2_with fail
        refine (hc.out _ kxtx kxty).mono ?_; rintro e w6 ⟨rfl, b6⟩
        replace kB := kB.trans (b6.mono kB.size)
        go_wp2_with fail
        go_ret
        exact ⟨by rw [← hoo.out]; rfl, kB⟩
    | true =>
      have Hgb := Lib.hid hgb
      clear hgb
      have ha1 := Lib.hid (fun W => ramount_calls m W hm1 hm2)
      have ha2 := Lib.hid (fun W => ramount_calls n W hn1 hn2)
      have hm := big_of Hga.out hm1 hm2
      obtain ⟨gs0, gs1, _, _⟩ := (goodD_iff m s).1 Hga.out
      have ht1 := Lib.hid (fun W v hv => rtens_lev m s v W hv hm gs0 gs1)
      have hw1 : IntKind.i64.wrap (18 - s) = 18 - s := IntWalk.i64_in _ (by omega)
      clear hm
      have hn := big_of Hgb.out hn1 hn2
      obtain ⟨gt0, gt1, _, _⟩ := (goodD_iff n t).1 Hgb.out
      have ht2 := Lib.hid (fun W v hv => rtens_lev n t v W hv hn gt0 gt1)
      have hw2 : IntKind.i64.wrap (18 - t) = 18 - t := IntWalk.i64_in _ (by omega)
      clear hn
      have hcmp : cmpO m s n t = ord3 (zv m s) (zv n t) := by unfold cmpO; rw [orZ_good Hga.out, orZ_good Hgb.out]
      have Hnn : Hid ((m : Int) < 0 → (n : Int) < 0 → cmpN (digs (lev n t)) (digs (lev m s)) = cmpO m s n t) := fun h k => by rw [hcmp]; exact ord_nn h k
      have Hpp : Hid (¬ (m : Int) < 0 → ¬ (n : Int) < 0 → cmpN (digs (lev m s)) (digs (lev n t)) = cmpO m s n t) := fun h k => by rw [hcmp]; exact ord_pp h k
      have Hnp : Hid ((m : Int) < 0 → ¬ (n : Int) < 0 → cmpO m s n t = -1) := fun h k => by rw [hcmp]; exact ord_np h k
      have Hpn : Hid (¬ (m : Int) < 0 → (n : Int) < 0 → cmpO m s n t = 1) := fun h k => by rw [hcmp]; exact ord_pn h k
      obtain ⟨x, hx⟩ : ∃ x, x = lev m s := ⟨_, rfl⟩
      obtain ⟨y, hy⟩ : ∃ y, y = lev n t := ⟨_, rfl⟩
      rw [← hx] at ht1 Hnn Hpp
      try rw [← hy] at ht2
      try rw [← hy] at Hnn Hpp
      clear hcmp hx hy Hga Hgb hm1 hm2 hn1 hn2
      have c0d2 := kd2.c0; have c1d2 := kd2.c1; have c0d3 := kd3.c0; have c1d3 := kd3.c1
      go_upto_region 5 with (fail)
      clear c0d2 c1d2 c0d3 c1d3
      refine wp_region_noPanic ?_
      refine wp_region_held_drew (S := fun X => Below w.heap.size w X ∧ DecAt X (w.heap.size) m s ∧ DecAt X (w.heap.size + 1) n t) (by kernel_rfl) ?_ (fun hHeld => ?_)
      · exact ⟨Below.drew kB, DecAt.drew kd2, DecAt.drew kd3⟩
      replace kB := Below.drew kB
      replace kd2 := DecAt.drew kd2
      replace kd3 := DecAt.drew kd3
      obtain ⟨qw, hcur⟩ : ∃ uu, uu = w2.drew := ⟨_, rfl⟩
      rw [← hcur] at hHeld kB kd2 kd3 ⊢
      clear hcur
      refine wpAnyH_take (i := 0) (v := ?_) (by simp only [List.getElem?_toArray, List.getElem?_cons_succ, List.getElem?_cons_zero]; rfl) (by kernel_rfl) (by kernel_rfl) (by kernel_rfl) (fun _ _ _ h => h) (Or.inl ⟨by rfl, ?_⟩) hHeld ?_
      rotate_left
      · intro x hSw; first | (go_simp; done) | (go_simp; with_reducible rfl)
      try simp only [Act.put, List.setIfInBounds_toArray, List.set_cons_zero, List.set_cons_succ]
      refine wpAnyH_take (i := 1) (v := ?_) (by simp only [List.getElem?_toArray, List.getElem?_cons_succ, List.getElem?_cons_zero]; rfl) (by kernel_rfl) (by kernel_rfl) (by kernel_rfl) (fun _ _ _ h => h) (Or.inl ⟨by rfl, ?_⟩) hHeld ?_
      rotate_left
      · intro x hSw; (try dsimp only at hSw); obtain ⟨_, hd2, hd3⟩ := hSw; have c0d2 := hd2.c0; have c1d2 := hd2.c1; have c0d3 := hd3.c0; have c1d3 := hd3.c1; first | (go_simp; done) | (go_simp; with_reducible rfl)
      try simp only [Act.put, List.setIfInBounds_toArray, List.set_cons_zero, List.set_cons_succ]
      refine wpAnyH_take (i := 3) (v := ?_) (by simp only [List.getElem?_toArray, List.getElem?_cons_succ, List.getElem?_cons_zero]; rfl) (by kernel_rfl) (by kernel_rfl) (by kernel_rfl) (fun _ _ _ h => h) (Or.inl ⟨by rfl, ?_⟩) hHeld ?_
      rotate_left
      · intro x hSw; first | (go_simp; done) | (go_simp; with_reducible rfl)
      try simp only [Act.put, List.setIfInBounds_toArray, List.set_cons_zero, List.set_cons_succ]
      refine wpAnyH_take (i := 4) (v := ?_) (by simp only [List.getElem?_toArray, List.getElem?_cons_succ, List.getElem?_cons_zero]; rfl) (by kernel_rfl) (by kernel_rfl) (by kernel_rfl) (fun _ _ _ h => h) (Or.inl ⟨by rfl, ?_⟩) hHeld ?_
      rotate_left
      · intro x hSw; (try dsimp only at hSw); obtain ⟨_, hd2, hd3⟩ := hSw; have c0d2 := hd2.c0; have c1d2 := hd2.c1; have c0d3 := hd3.c0; have c1d3 := hd3.c1; first | (go_simp; done) | (go_simp; with_reducible rfl)
      try simp only [Act.put, List.setIfInBounds_toArray, List.set_cons_zero, List.set_cons_succ]
      refine wpAnyH_take (i := 5) (v := ?_) (by simp only [List.getElem?_toArray, List.getElem?_cons_succ, List.getElem?_cons_zero]; rfl) (by kernel_rfl) (by kernel_rfl) (by kernel_rfl) (fun _ _ _ h => h) (Or.inl ⟨by rfl, ?_⟩) hHeld ?_
      rotate_left
      · intro x hSw; first | (go_simp; done) | (go_simp; with_reducible rfl)
      try simp only [Act.put, List.setIfInBounds_toArray, List.set_cons_zero, List.set_cons_succ]
      refine wpAnyH_take (i := 7) (v := ?_) (by simp only [List.getElem?_toArray, List.getElem?_cons_succ, List.getElem?_cons_zero]; rfl) (by kernel_rfl) (by kernel_rfl) (by kernel_rfl) (fun _ _ _ h => h) (Or.inl ⟨by rfl, ?_⟩) hHeld ?_
      rotate_left
      · intro x hSw; first | (go_simp; done) | (go_simp; with_reducible rfl)
      try simp only [Act.put, List.setIfInBounds_toArray, List.set_cons_zero, List.set_cons_succ]
      refine wpAnyH_take (i := 8) (v := ?_) (by simp only [List.getElem?_toArray, List.getElem?_cons_succ, List.getElem?_cons_zero]; rfl) (by kernel_rfl) (by kernel_rfl) (by kernel_rfl) (fun _ _ _ h => h) (Or.inl ⟨by rfl, ?_⟩) hHeld ?_
      rotate_left
      · intro x hSw; (try dsimp only at hSw); obtain ⟨_, hd2, hd3⟩ := hSw; have c0d2 := hd2.c0; have c1d2 := hd2.c1; have c0d3 := hd3.c0; have c1d3 := hd3.c1; first | (go_simp; done) | (go_simp; with_reducible rfl)
      try simp only [Act.put, List.setIfInBounds_toArray, List.set_cons_zero, List.set_cons_succ]
      refine wpAnyH_take (i := 10) (v := ?_) (by simp only [List.getElem?_toArray, List.getElem?_cons_succ, List.getElem?_cons_zero]; rfl) (by kernel_rfl) (by kernel_rfl) (by kernel_rfl) (fun _ _ _ h => h) (Or.inl ⟨by rfl, ?_⟩) hHeld ?_
      rotate_left
      · intro x hSw; first | (go_simp; done) | (go_simp; with_reducible rfl)
      try simp only [Act.put, List.setIfInBounds_toArray, List.set_cons_zero, List.set_cons_succ]
      refine wpAnyH_take (i := 11) (v := ?_) (by simp only [List.getElem?_toArray, List.getElem?_cons_succ, List.getElem?_cons_zero]; rfl) (by kernel_rfl) (by kernel_rfl) (by kernel_rfl) (fun _ _ _ h => h) (Or.inl ⟨by rfl, ?_⟩) hHeld ?_
      rotate_left
      · intro x hSw; (try dsimp only at hSw); obtain ⟨_, hd2, hd3⟩ := hSw; have c0d2 := hd2.c0; have c1d2 := hd2.c1; have c0d3 := hd3.c0; have c1d3 := hd3.c1; first | (go_simp; done) | (go_simp; with_reducible rfl)
      try simp only [Act.put, List.setIfInBounds_toArray, List.set_cons_zero, List.set_cons_succ]
      refine wpAnyH_take (i := 12) (v := ?_) (by simp only [List.getElem?_toArray, List.getElem?_cons_succ, List.getElem?_cons_zero]; rfl) (by kernel_rfl) (by kernel_rfl) (by kernel_rfl) (fun _ _ _ h => h) (Or.inl ⟨by rfl, ?_⟩) hHeld ?_
      rotate_left
      · intro x hSw; first | (go_simp; done) | (go_simp; with_reducible rfl)
      try simp only [Act.put, List.setIfInBounds_toArray, List.set_cons_zero, List.set_cons_succ]
      refine wpAnyH_ready (rs := [2]) (by kernel_rfl) (by simp) ?_
      refine AllReadyH.cons (by simp only [List.getElem?_toArray, List.getElem?_cons_succ, List.getElem?_cons_zero]; rfl) (fun K hK => ?_) AllReadyH.nil
      try go_simp
      refine (ha1.out _).mono ?_; rintro e wq1 ⟨va1, rfl, kxa1, q1⟩
      replace kB := kB.trans (q1.mono kB.size)
      replace kd2 := kd2.below q1
      replace kd3 := kd3.below q1
      clear q1
      try go_wp2_with fail
      refine hK.out _ _ ?_ (fun hHeld => ?_)
      · exact ⟨kB, kd2, kd3⟩
      clear hK K
      try simp only [Act.put, List.setIfInBounds_toArray, List.set_cons_zero, List.set_cons_succ]
      refine wpAnyH_ready (rs := [6]) (by kernel_rfl) (by simp) ?_
      refine AllReadyH.cons (by simp only [List.getElem?_toArray, List.getElem?_cons_succ, List.getElem?_cons_zero]; rfl) (fun K hK => ?_) AllReadyH.nil
      try go_simp
      refine (ht1.out _ _ kxa1).mono ?_; rintro e wq2 ⟨vtx, rfl, kxtx, q2⟩
      replace kxa1 := kxa1.below q2
      replace kB := kB.trans (q2.mono kB.size)
      replace kd2 := kd2.below q2
      replace kd3 := kd3.below q2
      clear q2
      try go_wp2_with fail
      refine hK.out _ _ ?_ (fun hHeld => ?_)
      · exact ⟨kB, kd2, kd3⟩
      clear hK K
      try simp only [Act.put, List.setIfInBounds_toArray, List.set_cons_zero, List.set_cons_succ]
      refine wpAnyH_ready (rs := [9]) (by kernel_rfl) (by simp) ?_
      refine AllReadyH.cons (by simp only [List.getElem?_toArray, List.getElem?_cons_succ, List.getElem?_cons_zero]; rfl) (fun K hK => ?_) AllReadyH.nil
      try go_simp
      refine (ha2.out _).mono ?_; rintro e wq3 ⟨va2, rfl, kxa2, q3⟩
      replace kxa1 := kxa1.below q3
      replace kxtx := kxtx.below q3
      replace kB := kB.trans (q3.mono kB.size)
      replace kd2 := kd2.below q3
      replace kd3 := kd3.below q3
      clear q3
      try go_wp2_with fail
      refine hK.out _ _ ?_ (fun hHeld => ?_)
      · exact ⟨kB, kd2, kd3⟩
      clear hK K
      try simp only [Act.put, List.setIfInBounds_toArray, List.set_cons_zero, List.set_cons_succ]
      refine wpAnyH_ready (rs := [13]) (by kernel_rfl) (by simp) ?_
      refine AllReadyH.cons (by simp only [List.getElem?_toArray, List.getElem?_cons_succ, List.getElem?_cons_zero]; rfl) (fun K hK => ?_) AllReadyH.nil
      try go_simp
      refine (ht2.out _ _ kxa2).mono ?_; rintro e wq4 ⟨vty, rfl, kxty, q4⟩
      replace kxa1 := kxa1.below q4
      replace kxtx := kxtx.below q4
      replace kxa2 := kxa2.below q4
      replace kB := kB.trans (q4.mono kB.size)
      replace kd2 := kd2.below q4
      replace kd3 := kd3.below q4
      clear q4
      try go_wp2_with fail
      refine hK.out _ _ ?_ (fun hHeld => ?_)
      · exact ⟨kB, kd2, kd3⟩
      clear hK K
      try simp only [Act.put, List.setIfInBounds_toArray, List.set_cons_zero, List.set_cons_succ]
      refine wpAnyH_take (i := 14) (v := ?_) (by simp only [List.getElem?_toArray, List.getElem?_cons_succ, List.getElem?_cons_zero]; rfl) (by kernel_rfl) (by kernel_rfl) (by kernel_rfl) (fun _ _ _ h => h) (Or.inl ⟨by rfl, ?_⟩) hHeld ?_
      rotate_left
      · intro x hSw; first | (go_simp; done) | (go_simp; with_reducible rfl)
      try simp only [Act.put, List.setIfInBounds_toArray, List.set_cons_zero, List.set_cons_succ]
      refine wpAnyH_take (i := 15) (v := ?_) (by simp only [List.getElem?_toArray, List.getElem?_cons_succ, List.getElem?_cons_zero]; rfl) (by kernel_rfl) (by kernel_rfl) (by kernel_rfl) (fun _ _ _ h => h) (Or.inl ⟨by rfl, ?_⟩) hHeld ?_
      rotate_left
      · intro x hSw; first | (go_simp; done) | (go_simp; with_reducible rfl)
      try simp only [Act.put, List.setIfInBounds_toArray, List.set_cons_zero, List.set_cons_succ]
      refine wpAnyH_done (by kernel_rfl) ?_ _
      refine NoPanic.normal ?_
      clear kxa1 kxa2 ha1 ha2 ht1 ht2
      have c0d2 := kd2.c0; have c1d2 := kd2.c1; have c0d3 := kd3.c0; have c1d3 := kd3.c1
      by_cases hm0 : m < 0
      · have dm : decide (m < 0) = true := by simpa using hm0
        by_cases hn0 : n < 0
        · have dn : decide (n < 0) = true := by simpa using hn0
          have hr := Lib.hid (Hnn.out (by omega) (by omega))
          have hc := Lib.hid (fun W hv hu => rcompare_calls (digs y) (digs x) vty vtx W hv hu)
          clear Hnn Hnp Hpn Hpp
          rw [hr.out] at hc
          obtain ⟨oo, ho⟩ : ∃ oo, oo = cmpO m s n t := ⟨_, rfl⟩
          rw [← ho] at hc
          have hoo := Lib.hid ho
          clear hr ho
          go_wp2_with fail
          refine (hc.out _ kxty kxtx).mono ?_; rintro e w6 ⟨rfl, b6⟩
          replace kB := kB.trans (b6.mono kB.size)
          go_wp2_with fail
          go_ret
          exact ⟨by rw [← hoo.out]; rfl, kB⟩
        · have dn : decide (n < 0) = false := by simpa using hn0
          have hr := Lib.hid (Hnp.out (by omega) (by omega))
          clear Hnn Hnp Hpn Hpp
          go_wp2_with fail
          go_ret
          exact ⟨by rw [hr.out]; rfl, kB⟩
      · have dm : decide (m < 0) = false := by simpa using hm0
        by_cases hn0 : n < 0
        · have dn : decide (n < 0) = true := by simpa using hn0
          have hr := Lib.hid (Hpn.out (by omega) (by omega))
          clear Hnn Hnp Hpn Hpp
          go_wp2_with fail
          go_ret
          exact ⟨by rw [hr.out]; rfl, kB⟩
        · have dn : decide (n < 0) = false := by simpa using hn0
          have hr := Lib.hid (Hpp.out (by omega) (by omega))
          have hc := Lib.hid (fun W hv hu => rcompare_calls (digs x) (digs y) vtx vty W hv hu)
          clear Hnn Hnp Hpn Hpp
          rw [hr.out] at hc
          obtain ⟨oo, ho⟩ : ∃ oo, oo = cmpO m s n t := ⟨_, rfl⟩
          rw [← ho] at hc
          have hoo := Lib.hid ho
          clear hr ho
          go_wp2_with fail
          refine (hc.out _ kxtx kxty).mono ?_; rintro e w6 ⟨rfl, b6⟩
          replace kB := kB.trans (b6.mono kB.size)
          go_wp2_with fail
          go_ret
          exact ⟨by rw [← hoo.out]; rfl, kB⟩

end Go.Proofs.Ytpciohnnnpgpiaa
