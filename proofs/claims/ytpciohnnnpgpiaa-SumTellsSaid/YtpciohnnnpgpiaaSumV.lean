/- The walk of package sum's Times. -/
import Derived.Test.YtpciohnnnpgpiaaSumU
import Derived.Deep.DeepCutAuto
set_option linter.unusedVariables false
set_option linter.unusedSimpArgs false
namespace Go.Proofs.Ytpciohnnnpgpiaa
open Go.RowKit Dc
attribute [local go_sem ↓] Go.wp_at_zero Go.wp_at_succ

set_option maxRecDepth 100000 in
set_option maxHeartbeats 8000000 in
theorem times_walk (m s n t : Int) (w : World) (hm1 : -9223372036854775808 ≤ m) (hm2 : m ≤ 9223372036854775807) (hn1 : -9223372036854775808 ≤ n) (hn2 : n ≤ 9223372036854775807) :
    Calls Try.prog 11 #[dv2 m s, dv2 n t] w fun e w' => e = .returned (normV (timesO m s n t)) ∧ Below w.heap.size w w' := by
  have kB := kb_alloc (kb_alloc (kb_alloc (Below.refl w.heap.size w) (Nat.le_refl _) (.cells #[.int .i64 m, .int .i64 s] 25)) (Nat.le_refl _) (.cells #[.int .i64 n, .int .i64 t] 25)) (Nat.le_refl _) (.cells #[.int .i64 0, .int .i64 0] 25)
  have kd2 := ((DecAt.new w m s).alloc (.cells #[.int .i64 n, .int .i64 t] 25)).alloc (.cells #[.int .i64 0, .int .i64 0] 25)
  have kd3 := (DecAt.new (w.alloc (.cells #[.int .i64 m, .int .i64 s] 25)) n t).alloc (.cells #[.int .i64 0, .int .i64 0] 25)
  have kd4 := DecAt.new ((w.alloc (.cells #[.int .i64 m, .int .i64 s] 25)).alloc (.cells #[.int .i64 n, .int .i64 t] 25)) 0 0
  rw [show (w.alloc (.cells #[.int .i64 m, .int .i64 s] 25)).heap.size = w.heap.size + 1 by simp] at kd3
  rw [show ((w.alloc (.cells #[.int .i64 m, .int .i64 s] 25)).alloc (.cells #[.int .i64 n, .int .i64 t] 25)).heap.size = w.heap.size + 2 by simp] at kd4
  go_enter Try.func11, Try.ntmps11
  go_wp2_with fail
  refine (good_calls m s _).mono ?_; rintro e w1 ⟨rfl, b1⟩
  replace kB := kB.trans (b1.mono kB.size)
  replace kd2 := kd2.below b1
  replace kd3 := kd3.below b1
  replace kd4 := kd4.below b1
  clear b1
  cases hga : goodD m s with
  | false =>
    have hres : Hid (timesO m s n t = none) := by show _ = _; unfold timesO; rw [if_neg (by simp [hga])]
    clear hga
    have sc0 := kd4.c0
    have sc1 := kd4.c1
    have sf0 := kd4.f0
    have sf1 := kd4.f1
    go_wp2_with fail
    refine bodyPost_ret (v := normV none) (by simp [results, Try.results11, go_sem, normV, sc0, sc1, sf0, sf1]) rfl ⟨by rw [hres.out], ?_⟩
    repeat (refine Below.setCell ?_ (by first | (simp; done) | (simp; omega)) _)
    exact kB
  | true =>
    have c0d2 := kd2.c0; have c1d2 := kd2.c1; have c0d3 := kd3.c0; have c1d3 := kd3.c1
    have Hga := Lib.hid hga
    clear hga
    go_wp2_with fail
    clear c0d2 c1d2 c0d3 c1d3
    refine (good_calls n t _).mono ?_; rintro e w2 ⟨rfl, b2⟩
    replace kB := kB.trans (b2.mono kB.size)
    replace kd2 := kd2.below b2
    replace kd3 := kd3.below b2
    replace kd4 := kd4.below b2
    clear b2
    cases hgb : goodD n t with
    | false =>
      have hres : Hid (timesO m s n t = none) := by show _ = _; unfold timesO; rw [if_neg (by simp [hgb])]
      clear hgb
      have sc0 := kd4.c0
      have sc1 := kd4.c1
      have sf0 := kd4.f0
      have sf1 := kd4.f1
      go_wp2_with fail
      refine bodyPost_ret (v := normV none) (by simp [results, Try.results11, go_sem, normV, sc0, sc1, sf0, sf1]) rfl ⟨by rw [hres.out], ?_⟩
      repeat (refine Below.setCell ?_ (by first | (simp; done) | (simp; omega)) _)
      exact kB
    | true =>
      have hga := Hga.out
      have hm := big_of hga hm1 hm2
      have hn := big_of hgb hn1 hn2
      obtain ⟨gs0, gs1, _, _⟩ := (goodD_iff m s).1 hga
      obtain ⟨gt0, gt1, _, _⟩ := (goodD_iff n t).1 hgb
      have hl1 := Lib.hid (fun W => spread_calls m 0 W hm (by omega))
      have hl2 := Lib.hid (fun W => spread_calls n 0 W hn (by omega))
      rw [show ((0 : Nat) : Int) = 0 from rfl, Nat.pow_zero, Nat.mul_one] at hl1 hl2
      obtain ⟨neg, hneg⟩ : ∃ neg, (decide (m < 0) != decide (n < 0)) = neg := ⟨_, rfl⟩
      have hdf := Lib.hid (fun W => differ_calls m s n t W)
      rw [hneg] at hdf
      have hto : timesO m s n t = decOf neg (m.natAbs * n.natAbs) (s + t) := by unfold timesO; rw [if_pos ⟨hga, hgb⟩, hneg]
      obtain ⟨x, hx⟩ : ∃ x, x = m.natAbs := ⟨_, rfl⟩
      obtain ⟨y, hy⟩ : ∃ y, y = n.natAbs := ⟨_, rfl⟩
      rw [← hx] at hl1 hto hm
      rw [← hy] at hl2 hto hn
      unfold big at hm hn
      have hxy : x * y < 10 ^ 38 := by
        have : x * y ≤ 9223372036854775807 * 9223372036854775807 := Nat.mul_le_mul hm hn
        omega
      have hmu := Lib.hid (fun W => times_calls x y W (by omega) (by omega))
      have hdc := Lib.hid (fun W => decimal_calls neg (x * y) (s + t).toNat W (by omega) (by omega))
      rw [show (((s + t).toNat : Nat) : Int) = s + t by omega] at hdc
      obtain ⟨a, b, c, hab⟩ := normV_form (decOf neg (x * y) (s + t))
      have hres : Hid (normV (timesO m s n t) = .tuple #[dv2 a b, .bool c]) := by show _ = _; rw [hto, hab]
      rw [hab] at hdc
      have hst : IntKind.i64.wrap (s + t) = s + t := by first | exact IntWalk.i64_in _ (by omega) | (simp [IntKind.wrap, IntKind.bits, IntKind.signed]; omega)
      clear hga hgb Hga hm hn hm1 hm2 hn1 hn2 hx hy hneg hto hxy hab
      go_upto_region 3 with (fail)
      go_cut [6] (fun s6 wx => ∃ b6, s6 = .pointer (some ⟨b6, 0, none⟩) ∧ w.heap.size + 3 ≤ b6 ∧ Below w.heap.size w wx ∧ DecAt wx (w.heap.size) m s ∧ DecAt wx (w.heap.size + 1) n t ∧ DecAt wx (w.heap.size + 2) 0 0 ∧ SAt wx b6 (dgt (x * y)))
      case first =>
        refine wp_region_noPanic ?_
        refine wp_region_held_drew (S := fun X => Below w.heap.size w X ∧ DecAt X (w.heap.size) m s ∧ DecAt X (w.heap.size + 1) n t) (by kernel_rfl) ?_ (fun hHeld => ?_)
        · exact ⟨Below.drew kB, DecAt.drew kd2, DecAt.drew kd3⟩
        replace kB := Below.drew kB
        replace kd2 := DecAt.drew kd2
        replace kd3 := DecAt.drew kd3
        replace kd4 := DecAt.drew kd4
        obtain ⟨qw, hcur⟩ : ∃ uu, uu = w2.drew := ⟨_, rfl⟩
        rw [← hcur] at hHeld kB kd2 kd3 kd4 ⊢
        clear hcur
        refine wpAnyH_take (i := 0) (v := ?_) (by simp only [List.getElem?_toArray, List.getElem?_cons_succ, List.getElem?_cons_zero]; rfl) (by kernel_rfl) (by kernel_rfl) (by kernel_rfl) (fun _ _ _ h => h) (Or.inl ⟨by rfl, ?_⟩) hHeld ?_
        rotate_left
        · intro x hSw; first | (go_simp; done) | (go_simp; with_reducible rfl)
        try simp only [Act.put, List.setIfInBounds_toArray, List.set_cons_zero, List.set_cons_succ]
        refine wpAnyH_take (i := 1) (v := ?_) (by simp only [List.getElem?_toArray, List.getElem?_cons_succ, List.getElem?_cons_zero]; rfl) (by kernel_rfl) (by kernel_rfl) (by kernel_rfl) (fun _ _ _ h => h) (Or.inl ⟨by rfl, ?_⟩) hHeld ?_
        rotate_left
        · intro x hSw; (try dsimp only at hSw); obtain ⟨_, hd2, hd3⟩ := hSw; have c0d2 := hd2.c0; have c1d2 := hd2.c1; have c0d3 := hd3.c0; have c1d3 := hd3.c1; first | (go_simp; done) | (go_simp; with_reducible rfl)
        try simp only [Act.put, List.setIfInBounds_toArray, List.set_cons_zero, List.set_cons_succ]
        refine wpAnyH_take (i := 3) (v := ?_) (by simp only [List.getElem?_toArray, List.getElem?_cons_succ, List.getElem?_cons_zero]; rfl) (by kernel_rfl) (by kernel_rfl) (by kernel_rfl) (fun _ _ _ h => h) (Or.inl ⟨by rfl, ?_⟩) hHeld ?_
        rotate_left
        · intro x hSw; first | (go_simp; done) | (go_simp; with_reducible rfl)
        try simp only [Act.put, List.setIfInBounds_toArray, List.set_cons_zero, List.set_cons_succ]
        refine wpAnyH_take (i := 4) (v := ?_) (by simp only [List.getElem?_toArray, List.getElem?_cons_succ, List.getElem?_cons_zero]; rfl) (by kernel_rfl) (by kernel_rfl) (by kernel_rfl) (fun _ _ _ h => h) (Or.inl ⟨by rfl, ?_⟩) hHeld ?_
        rotate_left
        · intro x hSw; (try dsimp only at hSw); obtain ⟨_, hd2, hd3⟩ := hSw; have c0d2 := hd2.c0; have c1d2 := hd2.c1; have c0d3 := hd3.c0; have c1d3 := hd3.c1; first | (go_simp; done) | (go_simp; with_reducible rfl)
        try simp only [Act.put, List.setIfInBounds_toArray, List.set_cons_zero, List.set_cons_succ]
        refine wpAnyH_ready (rs := [2, 7]) (by kernel_rfl) (by simp) ?_
        refine AllReadyH.cons (by simp only [List.getElem?_toArray, List.getElem?_cons_succ, List.getElem?_cons_zero]; rfl) (fun K hK => ?_) ?_
        · try go_simp
          refine (hl1.out _).mono ?_; rintro e wq1 ⟨rfl, q1⟩
          replace kB := kB.trans (q1.mono kB.size)
          replace kd2 := kd2.below q1
          replace kd3 := kd3.below q1
          replace kd4 := kd4.below q1
          clear q1
          try go_wp2_with fail
          refine hK.out _ _ ?_ (fun hHeld => ?_)
          · exact ⟨kB, kd2, kd3⟩
          clear hK K
          try simp only [Act.put, List.setIfInBounds_toArray, List.set_cons_zero, List.set_cons_succ]
          refine wpAnyH_ready (rs := [5, 7]) (by kernel_rfl) (by simp) ?_
          refine AllReadyH.cons (by simp only [List.getElem?_toArray, List.getElem?_cons_succ, List.getElem?_cons_zero]; rfl) (fun K hK => ?_) ?_
          · try go_simp
            refine (hl2.out _).mono ?_; rintro e wq2 ⟨rfl, q2⟩
            replace kB := kB.trans (q2.mono kB.size)
            replace kd2 := kd2.below q2
            replace kd3 := kd3.below q2
            replace kd4 := kd4.below q2
            clear q2
            try go_wp2_with fail
            refine hK.out _ _ ?_ (fun hHeld => ?_)
            · exact ⟨kB, kd2, kd3⟩
            clear hK K
            try simp only [Act.put, List.setIfInBounds_toArray, List.set_cons_zero, List.set_cons_succ]
            refine wpAnyH_ready (rs := [6, 7]) (by kernel_rfl) (by simp) ?_
            refine AllReadyH.cons (by simp only [List.getElem?_toArray, List.getElem?_cons_succ, List.getElem?_cons_zero]; rfl) (fun K hK => ?_) ?_
            · try go_simp
              refine (hmu.out _).mono ?_; rintro e wq3 ⟨rfl, q3⟩
              replace kB := kB.trans (q3.mono kB.size)
              replace kd2 := kd2.below q3
              replace kd3 := kd3.below q3
              replace kd4 := kd4.below q3
              clear q3
              try go_wp2_with fail
              refine hK.out _ _ ?_ (fun hHeld => ?_)
              · exact ⟨kB, kd2, kd3⟩
              clear hK K
              try simp only [Act.put, List.setIfInBounds_toArray, List.set_cons_zero, List.set_cons_succ]
              refine wpAnyH_ready (rs := [7]) (by kernel_rfl) (by simp) ?_
              refine AllReadyH.cons (by simp only [List.getElem?_toArray, List.getElem?_cons_succ, List.getElem?_cons_zero]; rfl) (fun K hK => ?_) AllReadyH.nil
              go_simp
              rw [zeros_sA]
              have hge_b6 := kB.size
              have hne_b6_d2 := kd2.lt
              replace kd2 := kd2.alloc (.cells (sA (fun _ => 0)) 43)
              have hne_b6_d3 := kd3.lt
              replace kd3 := kd3.alloc (.cells (sA (fun _ => 0)) 43)
              have hne_b6_d4 := kd4.lt
              replace kd4 := kd4.alloc (.cells (sA (fun _ => 0)) 43)
              replace kB := kb_alloc kB (Nat.le_refl _) (.cells (sA (fun _ => 0)) 43)
              have kr6 := SAt.new wq3 (fun _ => 0)
              obtain ⟨b6, hcur⟩ : ∃ uu, uu = wq3.heap.size := ⟨_, rfl⟩
              rw [← hcur] at hge_b6 hne_b6_d2 hne_b6_d3 hne_b6_d4 kr6 ⊢
              clear hcur
              obtain ⟨q4, hcur⟩ : ∃ uu, uu = wq3.alloc (.cells (sA (fun _ => 0)) 43) := ⟨_, rfl⟩
              rw [← hcur] at kB kd2 kd3 kd4 kr6 ⊢
              clear hcur
              refine hK.out _ _ ?_ (fun hHeld => ?_)
              · exact ⟨kB, kd2, kd3⟩
              clear hK K
              try simp only [Act.put, List.setIfInBounds_toArray, List.set_cons_zero, List.set_cons_succ]
              have kr0 := kr6
              replace kB := below_setRow (g := b6) kB (by omega) (sA (dgt (x * y)))
              replace kd2 := kd2.row (g := b6) (sA (dgt (x * y))) (by omega)
              replace kd3 := kd3.row (g := b6) (sA (dgt (x * y))) (by omega)
              replace kd4 := kd4.row (g := b6) (sA (dgt (x * y))) (by omega)
              replace kr6 := kr6.row (dgt (x * y))
              refine wpAnyH_ready (rs := [8]) (by kernel_rfl) (by simp) ?_
              refine ready_store_sA (by simp only [List.getElem?_toArray, List.getElem?_cons_succ, List.getElem?_cons_zero]; rfl) (by rfl) (.tmp 6) (.tmp 22) (by rfl) (b6) _ (dgt (x * y)) (by rfl) (by rfl) kr0 ?_ (fun hHeld => ?_)
              · exact ⟨kB, kd2, kd3⟩
              clear kr0
              try simp only [Act.put, List.setIfInBounds_toArray, List.set_cons_zero, List.set_cons_succ]
              obtain ⟨q5, hcur⟩ : ∃ uu, uu = q4.setRow (b6) (sA (dgt (x * y))) := ⟨_, rfl⟩
              rw [← hcur] at hHeld kB kd2 kd3 kd4 kr6 ⊢
              clear hcur
              refine wpAnyH_done (by kernel_rfl) ?_ _
              refine NoPanic.normal ?_
              go_wp2_with fail
              go_meet
              exact ⟨b6, rfl, by omega, kB, kd2, kd3, kd4, kr6⟩
            refine AllReadyH.cons (by simp only [List.getElem?_toArray, List.getElem?_cons_succ, List.getElem?_cons_zero]; rfl) (fun K hK => ?_) AllReadyH.nil
            go_simp
            rw [zeros_sA]
            have hge_b6 := kB.size
            have hne_b6_d2 := kd2.lt
            replace kd2 := kd2.alloc (.cells (sA (fun _ => 0)) 43)
            have hne_b6_d3 := kd3.lt
            replace kd3 := kd3.alloc (.cells (sA (fun _ => 0)) 43)
            have hne_b6_d4 := kd4.lt
            replace kd4 := kd4.alloc (.cells (sA (fun _ => 0)) 43)
            replace kB := kb_alloc kB (Nat.le_refl _) (.cells (sA (fun _ => 0)) 43)
            have kr6 := SAt.new wq2 (fun _ => 0)
            obtain ⟨b6, hcur⟩ : ∃ uu, uu = wq2.heap.size := ⟨_, rfl⟩
            rw [← hcur] at hge_b6 hne_b6_d2 hne_b6_d3 hne_b6_d4 kr6 ⊢
            clear hcur
            obtain ⟨q6, hcur⟩ : ∃ uu, uu = wq2.alloc (.cells (sA (fun _ => 0)) 43) := ⟨_, rfl⟩
            rw [← hcur] at kB kd2 kd3 kd4 kr6 ⊢
            clear hcur
            refine hK.out _ _ ?_ (fun hHeld => ?_)
            · exact ⟨kB, kd2, kd3⟩
            clear hK K
            try simp only [Act.put, List.setIfInBounds_toArray, List.set_cons_zero, List.set_cons_succ]
            refine wpAnyH_ready (rs := [6]) (by kernel_rfl) (by simp) ?_
            refine AllReadyH.cons (by simp only [List.getElem?_toArray, List.getElem?_cons_succ, List.getElem?_cons_zero]; rfl) (fun K hK => ?_) AllReadyH.nil
            try go_simp
            refine (hmu.out _).mono ?_; rintro e wq7 ⟨rfl, q7⟩
            replace kB := kB.trans (q7.mono kB.size)
            replace kd2 := kd2.below q7
            replace kd3 := kd3.below q7
            replace kd4 := kd4.below q7
            replace kr6 := kr6.keep q7
            clear q7
            try go_wp2_with fail
            refine hK.out _ _ ?_ (fun hHeld => ?_)
            · exact ⟨kB, kd2, kd3⟩
            clear hK K
            try simp only [Act.put, List.setIfInBounds_toArray, List.set_cons_zero, List.set_cons_succ]
            have kr0 := kr6
            replace kB := below_setRow (g := b6) kB (by omega) (sA (dgt (x * y)))
            replace kd2 := kd2.row (g := b6) (sA (dgt (x * y))) (by omega)
            replace kd3 := kd3.row (g := b6) (sA (dgt (x * y))) (by omega)
            replace kd4 := kd4.row (g := b6) (sA (dgt (x * y))) (by omega)
            replace kr6 := kr6.row (dgt (x * y))
            refine wpAnyH_ready (rs := [8]) (by kernel_rfl) (by simp) ?_
            refine ready_store_sA (by simp only [List.getElem?_toArray, List.getElem?_cons_succ, List.getElem?_cons_zero]; rfl) (by rfl) (.tmp 6) (.tmp 22) (by rfl) (b6) _ (dgt (x * y)) (by rfl) (by rfl) kr0 ?_ (fun hHeld => ?_)
            · exact ⟨kB, kd2, kd3⟩
            clear kr0
            try simp only [Act.put, List.setIfInBounds_toArray, List.set_cons_zero, List.set_cons_succ]
            obtain ⟨q8, hcur⟩ : ∃ uu, uu = wq7.setRow (b6) (sA (dgt (x * y))) := ⟨_, rfl⟩
            rw [← hcur] at hHeld kB kd2 kd3 kd4 kr6 ⊢
            clear hcur
            refine wpAnyH_done (by kernel_rfl) ?_ _
            refine NoPanic.normal ?_
            go_wp2_with fail
            go_meet
            exact ⟨b6, rfl, by omega, kB, kd2, kd3, kd4, kr6⟩
          refine AllReadyH.cons (by simp only [List.getElem?_toArray, List.getElem?_cons_succ, List.getElem?_cons_zero]; rfl) (fun K hK => ?_) AllReadyH.nil
          go_simp
          rw [zeros_sA]
          have hge_b6 := kB.size
          have hne_b6_d2 := kd2.lt
          replace kd2 := kd2.alloc (.cells (sA (fun _ => 0)) 43)
          have hne_b6_d3 := kd3.lt
          replace kd3 := kd3.alloc (.cells (sA (fun _ => 0)) 43)
          have hne_b6_d4 := kd4.lt
          replace kd4 := kd4.alloc (.cells (sA (fun _ => 0)) 43)
          replace kB := kb_alloc kB (Nat.le_refl _) (.cells (sA (fun _ => 0)) 43)
          have kr6 := SAt.new wq1 (fun _ => 0)
          obtain ⟨b6, hcur⟩ : ∃ uu, uu = wq1.heap.size := ⟨_, rfl⟩
          rw [← hcur] at hge_b6 hne_b6_d2 hne_b6_d3 hne_b6_d4 kr6 ⊢
          clear hcur
          obtain ⟨q9, hcur⟩ : ∃ uu, uu = wq1.alloc (.cells (sA (fun _ => 0)) 43) := ⟨_, rfl⟩
          rw [← hcur] at kB kd2 kd3 kd4 kr6 ⊢
          clear hcur
          refine hK.out _ _ ?_ (fun hHeld => ?_)
          · exact ⟨kB, kd2, kd3⟩
          clear hK K
          try simp only [Act.put, List.setIfInBounds_toArray, List.set_cons_zero, List.set_cons_succ]
          refine wpAnyH_ready (rs := [5]) (by kernel_rfl) (by simp) ?_
          refine AllReadyH.cons (by simp only [List.getElem?_toArray, List.getElem?_cons_succ, List.getElem?_cons_zero]; rfl) (fun K hK => ?_) AllReadyH.nil
          try go_simp
          refine (hl2.out _).mono ?_; rintro e wq10 ⟨rfl, q10⟩
          replace kB := kB.trans (q10.mono kB.size)
          replace kd2 := kd2.below q10
          replace kd3 := kd3.below q10
          replace kd4 := kd4.below q10
          replace kr6 := kr6.keep q10
          clear q10
          try go_wp2_with fail
          refine hK.out _ _ ?_ (fun hHeld => ?_)
          · exact ⟨kB, kd2, kd3⟩
          clear hK K
          try simp only [Act.put, List.setIfInBounds_toArray, List.set_cons_zero, List.set_cons_succ]
          refine wpAnyH_ready (rs := [6]) (by kernel_rfl) (by simp) ?_
          refine AllReadyH.cons (by simp only [List.getElem?_toArray, List.getElem?_cons_succ, List.getElem?_cons_zero]; rfl) (fun K hK => ?_) AllReadyH.nil
          try go_simp
          refine (hmu.out _).mono ?_; rintro e wq11 ⟨rfl, q11⟩
          replace kB := kB.trans (q11.mono kB.size)
          replace kd2 := kd2.below q11
          replace kd3 := kd3.below q11
          replace kd4 := kd4.below q11
          replace kr6 := kr6.keep q11
          clear q11
          try go_wp2_with fail
          refine hK.out _ _ ?_ (fun hHeld => ?_)
          · exact ⟨kB, kd2, kd3⟩
          clear hK K
          try simp only [Act.put, List.setIfInBounds_toArray, List.set_cons_zero, List.set_cons_succ]
          have kr0 := kr6
          replace kB := below_setRow (g := b6) kB (by omega) (sA (dgt (x * y)))
          replace kd2 := kd2.row (g := b6) (sA (dgt (x * y))) (by omega)
          replace kd3 := kd3.row (g := b6) (sA (dgt (x * y))) (by omega)
          replace kd4 := kd4.row (g := b6) (sA (dgt (x * y))) (by omega)
          replace kr6 := kr6.row (dgt (x * y))
          refine wpAnyH_ready (rs := [8]) (by kernel_rfl) (by simp) ?_
          refine ready_store_sA (by simp only [List.getElem?_toArray, List.getElem?_cons_succ, List.getElem?_cons_zero]; rfl) (by rfl) (.tmp 6) (.tmp 22) (by rfl) (b6) _ (dgt (x * y)) (by rfl) (by rfl) kr0 ?_ (fun hHeld => ?_)
          · exact ⟨kB, kd2, kd3⟩
          clear kr0
          try simp only [Act.put, List.setIfInBounds_toArray, List.set_cons_zero, List.set_cons_succ]
          obtain ⟨q12, hcur⟩ : ∃ uu, uu = wq11.setRow (b6) (sA (dgt (x * y))) := ⟨_, rfl⟩
          rw [← hcur] at hHeld kB kd2 kd3 kd4 kr6 ⊢
          clear hcur
          refine wpAnyH_done (by kernel_rfl) ?_ _
          refine NoPanic.normal ?_
          go_wp2_with fail
          go_meet
          exact ⟨b6, rfl, by omega, kB, kd2, kd3, kd4, kr6⟩
        refine AllReadyH.cons (by simp only [List.getElem?_toArray, List.getElem?_cons_succ, List.getElem?_cons_zero]; rfl) (fun K hK => ?_) AllReadyH.nil
        go_simp
        rw [zeros_sA]
        have hge_b6 := kB.size
        have hne_b6_d2 := kd2.lt
        replace kd2 := kd2.alloc (.cells (sA (fun _ => 0)) 43)
        have hne_b6_d3 := kd3.lt
        replace kd3 := kd3.alloc (.cells (sA (fun _ => 0)) 43)
        have hne_b6_d4 := kd4.lt
        replace kd4 := kd4.alloc (.cells (sA (fun _ => 0)) 43)
        replace kB := kb_alloc kB (Nat.le_refl _) (.cells (sA (fun _ => 0)) 43)
        have kr6 := SAt.new qw (fun _ => 0)
        obtain ⟨b6, hcur⟩ : ∃ uu, uu = qw.heap.size := ⟨_, rfl⟩
        rw [← hcur] at hge_b6 hne_b6_d2 hne_b6_d3 hne_b6_d4 kr6 ⊢
        clear hcur
        obtain ⟨q13, hcur⟩ : ∃ uu, uu = qw.alloc (.cells (sA (fun _ => 0)) 43) := ⟨_, rfl⟩
        rw [← hcur] at kB kd2 kd3 kd4 kr6 ⊢
        clear hcur
        refine hK.out _ _ ?_ (fun hHeld => ?_)
        · exact ⟨kB, kd2, kd3⟩
        clear hK K
        try simp only [Act.put, List.setIfInBounds_toArray, List.set_cons_zero, List.set_cons_succ]
        refine wpAnyH_ready (rs := [2]) (by kernel_rfl) (by simp) ?_
        refine AllReadyH.cons (by simp only [List.getElem?_toArray, List.getElem?_cons_succ, List.getElem?_cons_zero]; rfl) (fun K hK => ?_) AllReadyH.nil
        try go_simp
        refine (hl1.out _).mono ?_; rintro e wq14 ⟨rfl, q14⟩
        replace kB := kB.trans (q14.mono kB.size)
        replace kd2 := kd2.below q14
        replace kd3 := kd3.below q14
        replace kd4 := kd4.below q14
        replace kr6 := kr6.keep q14
        clear q14
        try go_wp2_with fail
        refine hK.out _ _ ?_ (fun hHeld => ?_)
        · exact ⟨kB, kd2, kd3⟩
        clear hK K
        try simp only [Act.put, List.setIfInBounds_toArray, List.set_cons_zero, List.set_cons_succ]
        refine wpAnyH_ready (rs := [5]) (by kernel_rfl) (by simp) ?_
        refine AllReadyH.cons (by simp only [List.getElem?_toArray, List.getElem?_cons_succ, List.getElem?_cons_zero]; rfl) (fun K hK => ?_) AllReadyH.nil
        try go_simp
        refine (hl2.out _).mono ?_; rintro e wq15 ⟨rfl, q15⟩
        replace kB := kB.trans (q15.mono kB.size)
        replace kd2 := kd2.below q15
        replace kd3 := kd3.below q15
        replace kd4 := kd4.below q15
        replace kr6 := kr6.keep q15
        clear q15
        try go_wp2_with fail
        refine hK.out _ _ ?_ (fun hHeld => ?_)
        · exact ⟨kB, kd2, kd3⟩
        clear hK K
        try simp only [Act.put, List.setIfInBounds_toArray, List.set_cons_zero, List.set_cons_succ]
        refine wpAnyH_ready (rs := [6]) (by kernel_rfl) (by simp) ?_
        refine AllReadyH.cons (by simp only [List.getElem?_toArray, List.getElem?_cons_succ, List.getElem?_cons_zero]; rfl) (fun K hK => ?_) AllReadyH.nil
        try go_simp
        refine (hmu.out _).mono ?_; rintro e wq16 ⟨rfl, q16⟩
        replace kB := kB.trans (q16.mono kB.size)
        replace kd2 := kd2.below q16
        replace kd3 := kd3.below q16
        replace kd4 := kd4.below q16
        replace kr6 := kr6.keep q16
        clear q16
        try go_wp2_with fail
        refine hK.out _ _ ?_ (fun hHeld => ?_)
        · exact ⟨kB, kd2, kd3⟩
        clear hK K
        try simp only [Act.put, List.setIfInBounds_toArray, List.set_cons_zero, List.set_cons_succ]
        have kr0 := kr6
        replace kB := below_setRow (g := b6) kB (by omega) (sA (dgt (x * y)))
        replace kd2 := kd2.row (g := b6) (sA (dgt (x * y))) (by omega)
        replace kd3 := kd3.row (g := b6) (sA (dgt (x * y))) (by omega)
        replace kd4 := kd4.row (g := b6) (sA (dgt (x * y))) (by omega)
        replace kr6 := kr6.row (dgt (x * y))
        refine wpAnyH_ready (rs := [8]) (by kernel_rfl) (by simp) ?_
        refine ready_store_sA (by simp only [List.getElem?_toArray, List.getElem?_cons_succ, List.getElem?_cons_zero]; rfl) (by rfl) (.tmp 6) (.tmp 22) (by rfl) (b6) _ (dgt (x * y)) (by rfl) (by rfl) kr0 ?_ (fun hHeld => ?_)
        · exact ⟨kB, kd2, kd3⟩
        clear kr0
        try simp only [Act.put, List.setIfInBounds_toArray, List.set_cons_zero, List.set_cons_succ]
        obtain ⟨q17, hcur⟩ : ∃ uu, uu = wq16.setRow (b6) (sA (dgt (x * y))) := ⟨_, rfl⟩
        rw [← hcur] at hHeld kB kd2 kd3 kd4 kr6 ⊢
        clear hcur
        refine wpAnyH_done (by kernel_rfl) ?_ _
        refine NoPanic.normal ?_
        go_wp2_with fail
        go_meet
        exact ⟨b6, rfl, by omega, kB, kd2, kd3, kd4, kr6⟩
      case rest =>
        clear kB kd2 kd3 kd4 hl1 hl2 hmu
        obtain ⟨b6, rfl, h6, kB, kd2, kd3, kd4, kr6⟩ := hcut
        go_upto_region 4 with (fail)
        refine wp_region_noPanic ?_
        refine wp_region_held_drew (S := fun X => Below w.heap.size w X ∧ DecAt X (w.heap.size) m s ∧ DecAt X (w.heap.size + 1) n t ∧ SAt X b6 (dgt (x * y))) (by kernel_rfl) ?_ (fun hHeld => ?_)
        · exact ⟨Below.drew kB, DecAt.drew kd2, DecAt.drew kd3, SAt.drew1 kr6⟩
        replace kB := Below.drew kB
        replace kd2 := DecAt.drew kd2
        replace kd3 := DecAt.drew kd3
        replace kd4 := DecAt.drew kd4
        replace kr6 := SAt.drew1 kr6
        obtain ⟨qw, hcur⟩ : ∃ uu, uu = wc.drew := ⟨_, rfl⟩
        rw [← hcur] at hHeld kB kd2 kd3 kd4 kr6 ⊢
        clear hcur
        refine wpAnyH_take (i := 0) (v := ?_) (by simp only [List.getElem?_toArray, List.getElem?_cons_succ, List.getElem?_cons_zero]; rfl) (by kernel_rfl) (by kernel_rfl) (by kernel_rfl) (fun _ _ _ h => h) (Or.inl ⟨by rfl, ?_⟩) hHeld ?_
        rotate_left
        · intro x hSw; (try dsimp only at hSw); obtain ⟨_, hd2, hd3, hr6⟩ := hSw; have c0d2 := hd2.c0; have c1d2 := hd2.c1; have c0d3 := hd3.c0; have c1d3 := hd3.c1; first | (go_simp; done) | (go_simp; with_reducible rfl)
        try simp only [Act.put, List.setIfInBounds_toArray, List.set_cons_zero, List.set_cons_succ]
        refine wpAnyH_take (i := 1) (v := ?_) (by simp only [List.getElem?_toArray, List.getElem?_cons_succ, List.getElem?_cons_zero]; rfl) (by kernel_rfl) (by kernel_rfl) (by kernel_rfl) (fun _ _ _ h => h) (Or.inl ⟨by rfl, ?_⟩) hHeld ?_
        rotate_left
        · intro x hSw; (try dsimp only at hSw); obtain ⟨_, hd2, hd3, hr6⟩ := hSw; have c0d2 := hd2.c0; have c1d2 := hd2.c1; have c0d3 := hd3.c0; have c1d3 := hd3.c1; first | (go_simp; done) | (go_simp; with_reducible rfl)
        try simp only [Act.put, List.setIfInBounds_toArray, List.set_cons_zero, List.set_cons_succ]
        refine wpAnyH_take (i := 3) (v := .agg (sA (dgt (x * y)))) (by simp only [List.getElem?_toArray, List.getElem?_cons_succ, List.getElem?_cons_zero]; rfl) (by kernel_rfl) (by kernel_rfl) (by kernel_rfl) (fun _ _ _ h => h) (yields_load_sA (by rfl) (.tmp 6) (by rfl) (b6) _ (by rfl) (fun _ hSw => (((hSw).2).2).2)) hHeld ?_
        try simp only [Act.put, List.setIfInBounds_toArray, List.set_cons_zero, List.set_cons_succ]
        refine wpAnyH_take (i := 4) (v := ?_) (by simp only [List.getElem?_toArray, List.getElem?_cons_succ, List.getElem?_cons_zero]; rfl) (by kernel_rfl) (by kernel_rfl) (by kernel_rfl) (fun _ _ _ h => h) (Or.inl ⟨by rfl, ?_⟩) hHeld ?_
        rotate_left
        · intro x hSw; first | (go_simp; done) | (go_simp; with_reducible rfl)
        try simp only [Act.put, List.setIfInBounds_toArray, List.set_cons_zero, List.set_cons_succ]
        refine wpAnyH_take (i := 5) (v := ?_) (by simp only [List.getElem?_toArray, List.getElem?_cons_succ, List.getElem?_cons_zero]; rfl) (by kernel_rfl) (by kernel_rfl) (by kernel_rfl) (fun _ _ _ h => h) (Or.inl ⟨by rfl, ?_⟩) hHeld ?_
        rotate_left
        · intro x hSw; (try dsimp only at hSw); obtain ⟨_, hd2, hd3, hr6⟩ := hSw; have c0d2 := hd2.c0; have c1d2 := hd2.c1; have c0d3 := hd3.c0; have c1d3 := hd3.c1; first | (go_simp; done) | (go_simp; with_reducible rfl)
        try simp only [Act.put, List.setIfInBounds_toArray, List.set_cons_zero, List.set_cons_succ]
        refine wpAnyH_take (i := 6) (v := ?_) (by simp only [List.getElem?_toArray, List.getElem?_cons_succ, List.getElem?_cons_zero]; rfl) (by kernel_rfl) (by kernel_rfl) (by kernel_rfl) (fun _ _ _ h => h) (Or.inl ⟨by rfl, ?_⟩) hHeld ?_
        rotate_left
        · intro x hSw; first | (go_simp; done) | (go_simp; with_reducible rfl)
        try simp only [Act.put, List.setIfInBounds_toArray, List.set_cons_zero, List.set_cons_succ]
        refine wpAnyH_take (i := 7) (v := ?_) (by simp only [List.getElem?_toArray, List.getElem?_cons_succ, List.getElem?_cons_zero]; rfl) (by kernel_rfl) (by kernel_rfl) (by kernel_rfl) (fun _ _ _ h => h) (Or.inl ⟨by rfl, ?_⟩) hHeld ?_
        rotate_left
        · intro x hSw; (try dsimp only at hSw); obtain ⟨_, hd2, hd3, hr6⟩ := hSw; have c0d2 := hd2.c0; have c1d2 := hd2.c1; have c0d3 := hd3.c0; have c1d3 := hd3.c1; first | (go_simp; done) | (go_simp; with_reducible rfl)
        try simp only [Act.put, List.setIfInBounds_toArray, List.set_cons_zero, List.set_cons_succ]
        refine wpAnyH_take (i := 8) (v := ?_) (by simp only [List.getElem?_toArray, List.getElem?_cons_succ, List.getElem?_cons_zero]; rfl) (by kernel_rfl) (by kernel_rfl) (by kernel_rfl) (fun _ _ _ h => h) (Or.inl ⟨by rfl, ?_⟩) hHeld ?_
        rotate_left
        · intro x hSw; first | (go_simp; done) | (go_simp; with_reducible rfl)
        try simp only [Act.put, List.setIfInBounds_toArray, List.set_cons_zero, List.set_cons_succ]
        refine wpAnyH_ready (rs := [2]) (by kernel_rfl) (by simp) ?_
        refine AllReadyH.cons (by simp only [List.getElem?_toArray, List.getElem?_cons_succ, List.getElem?_cons_zero]; rfl) (fun K hK => ?_) AllReadyH.nil
        try go_simp
        refine (hdf.out _).mono ?_; rintro e wq1 ⟨rfl, q1⟩
        replace kB := kB.trans (q1.mono kB.size)
        replace kd2 := kd2.below q1
        replace kd3 := kd3.below q1
        replace kd4 := kd4.below q1
        replace kr6 := kr6.keep q1
        clear q1
        try go_wp2_with fail
        refine hK.out _ _ ?_ (fun hHeld => ?_)
        · exact ⟨kB, kd2, kd3, kr6⟩
        clear hK K
        try simp only [Act.put, List.setIfInBounds_toArray, List.set_cons_zero, List.set_cons_succ]
        refine wpAnyH_ready (rs := [9]) (by kernel_rfl) (by simp) ?_
        refine AllReadyH.cons (by simp only [List.getElem?_toArray, List.getElem?_cons_succ, List.getElem?_cons_zero]; rfl) (fun K hK => ?_) AllReadyH.nil
        try go_simp
        refine (hdc.out _).mono ?_; rintro e wq2 ⟨rfl, q2⟩
        replace kB := kB.trans (q2.mono kB.size)
        replace kd2 := kd2.below q2
        replace kd3 := kd3.below q2
        replace kd4 := kd4.below q2
        replace kr6 := kr6.keep q2
        clear q2
        try go_wp2_with fail
        refine hK.out _ _ ?_ (fun hHeld => ?_)
        · exact ⟨kB, kd2, kd3, kr6⟩
        clear hK K
        try simp only [Act.put, List.setIfInBounds_toArray, List.set_cons_zero, List.set_cons_succ]
        refine wpAnyH_take (i := 10) (v := ?_) (by simp only [List.getElem?_toArray, List.getElem?_cons_succ, List.getElem?_cons_zero]; rfl) (by kernel_rfl) (by kernel_rfl) (by kernel_rfl) (fun _ _ _ h => h) (Or.inl ⟨by rfl, ?_⟩) hHeld ?_
        rotate_left
        · intro x hSw; first | (go_simp; done) | (go_simp; with_reducible rfl)
        try simp only [Act.put, List.setIfInBounds_toArray, List.set_cons_zero, List.set_cons_succ]
        refine wpAnyH_take (i := 11) (v := ?_) (by simp only [List.getElem?_toArray, List.getElem?_cons_succ, List.getElem?_cons_zero]; rfl) (by kernel_rfl) (by kernel_rfl) (by kernel_rfl) (fun _ _ _ h => h) (Or.inl ⟨by rfl, ?_⟩) hHeld ?_
        rotate_left
        · intro x hSw; first | (go_simp; done) | (go_simp; with_reducible rfl)
        try simp only [Act.put, List.setIfInBounds_toArray, List.set_cons_zero, List.set_cons_succ]
        refine wpAnyH_ready (rs := [12]) (by kernel_rfl) (by simp) ?_
        refine AllReadyH.cons (by simp only [List.getElem?_toArray, List.getElem?_cons_succ, List.getElem?_cons_zero]; rfl) (fun K hK => ?_) AllReadyH.nil
        have sc0 := kd4.c0; have sc1 := kd4.c1; have sf0 := kd4.f0; have sf1 := kd4.f1
        go_simp
        clear sc0 sc1 sf0 sf1
        replace kB := below_put (g := (w.heap.size + 2)) kB (by omega) (a) (b)
        replace kd2 := kd2.putOther (g := (w.heap.size + 2)) (by omega) (a) (b)
        replace kd3 := kd3.putOther (g := (w.heap.size + 2)) (by omega) (a) (b)
        replace kd4 := kd4.put (a) (b)
        replace kr6 := kr6.putOther (g := (w.heap.size + 2)) (by omega) (a) (b)
        unfold putDec at kB kd2 kd3 kd4 kr6
        refine hK.out _ _ ?_ (fun hHeld => ?_)
        · exact ⟨kB, kd2, kd3, kr6⟩
        clear hK K
        try simp only [Act.put, List.setIfInBounds_toArray, List.set_cons_zero, List.set_cons_succ]
        refine wpAnyH_take (i := 13) (v := ?_) (by simp only [List.getElem?_toArray, List.getElem?_cons_succ, List.getElem?_cons_zero]; rfl) (by kernel_rfl) (by kernel_rfl) (by kernel_rfl) (fun _ _ _ h => h) (Or.inl ⟨by rfl, ?_⟩) hHeld ?_
        rotate_left
        · intro x hSw; first | (go_simp; done) | (go_simp; with_reducible rfl)
        try simp only [Act.put, List.setIfInBounds_toArray, List.set_cons_zero, List.set_cons_succ]
        refine wpAnyH_done (by kernel_rfl) ?_ _
        refine NoPanic.normal ?_
        have sc0 := kd4.c0
        have sc1 := kd4.c1
        try go_wp2_with fail
        refine bodyPost_ret (v := .tuple #[dv2 a b, .bool c]) (by simp [results, Try.results11, go_sem, sc0, sc1]) rfl ⟨by rw [hres.out], kB⟩

end Go.Proofs.Ytpciohnnnpgpiaa
