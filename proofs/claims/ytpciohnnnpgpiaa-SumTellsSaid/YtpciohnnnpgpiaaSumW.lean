/- The walk of package sum's Over. -/
import Derived.Test.YtpciohnnnpgpiaaSumU
import Derived.Deep.DeepCutAuto
set_option linter.unusedVariables false
set_option linter.unusedSimpArgs false
namespace Go.Proofs.Ytpciohnnnpgpiaa
open Go.RowKit Dc
attribute [local go_sem ↓] Go.wp_at_zero Go.wp_at_succ

theorem magnitude_callsB (m : Int) (w : World) (h1 : m.natAbs ≤ big) :
    Calls Try.prog 35 #[.int .i64 m] w fun e w' => e = .returned (.int .u64 (m.natAbs : Nat)) ∧ Below w.heap.size w w' :=
  (magnitude_calls m w h1).mono (by rintro e w' ⟨rfl, rfl⟩; exact ⟨rfl, Below.refl _ _⟩)
theorem overO_zero {m s n t : Int} (h : n = 0) : overO m s n t = none := by unfold overO; rw [if_neg (by intro e; exact e.2.2.1 h)]
theorem overO_rest {m s n t : Int} (h : dvd m s t % n.natAbs ≠ 0) : overO m s n t = none := by unfold overO; rw [if_neg (by intro e; exact h e.2.2.2)]
set_option maxRecDepth 100000 in
set_option maxHeartbeats 8000000 in
theorem over_walk (m s n t : Int) (w : World) (hm1 : -9223372036854775808 ≤ m) (hm2 : m ≤ 9223372036854775807) (hn1 : -9223372036854775808 ≤ n) (hn2 : n ≤ 9223372036854775807) :
    Calls Try.prog 13 #[dv2 m s, dv2 n t] w fun e w' => e = .returned (normV (overO m s n t)) ∧ Below w.heap.size w w' := by
  have kB := kb_alloc (kb_alloc (kb_alloc (Below.refl w.heap.size w) (Nat.le_refl _) (.cells #[.int .i64 m, .int .i64 s] 25)) (Nat.le_refl _) (.cells #[.int .i64 n, .int .i64 t] 25)) (Nat.le_refl _) (.cells #[.int .i64 0, .int .i64 0] 25)
  have kd2 := ((DecAt.new w m s).alloc (.cells #[.int .i64 n, .int .i64 t] 25)).alloc (.cells #[.int .i64 0, .int .i64 0] 25)
  have kd3 := (DecAt.new (w.alloc (.cells #[.int .i64 m, .int .i64 s] 25)) n t).alloc (.cells #[.int .i64 0, .int .i64 0] 25)
  have kd4 := DecAt.new ((w.alloc (.cells #[.int .i64 m, .int .i64 s] 25)).alloc (.cells #[.int .i64 n, .int .i64 t] 25)) 0 0
  rw [show (w.alloc (.cells #[.int .i64 m, .int .i64 s] 25)).heap.size = w.heap.size + 1 by simp] at kd3
  rw [show ((w.alloc (.cells #[.int .i64 m, .int .i64 s] 25)).alloc (.cells #[.int .i64 n, .int .i64 t] 25)).heap.size = w.heap.size + 2 by simp] at kd4
  go_enter Try.func13, Try.ntmps13
  go_wp2_with fail
  refine (good_calls m s _).mono ?_; rintro e w1 ⟨rfl, b1⟩
  replace kB := kB.trans (b1.mono kB.size)
  replace kd2 := kd2.below b1
  replace kd3 := kd3.below b1
  replace kd4 := kd4.below b1
  clear b1
  cases hga : goodD m s with
  | false =>
    have hres : Hid (overO m s n t = none) := by show _ = _; unfold overO; rw [if_neg (by simp [hga])]
    clear hga
    have sc0 := kd4.c0
    have sc1 := kd4.c1
    have sf0 := kd4.f0
    have sf1 := kd4.f1
    go_wp2_with fail
    refine bodyPost_ret (v := normV none) (by simp [results, Try.results13, go_sem, normV, sc0, sc1, sf0, sf1]) rfl ⟨by rw [hres.out], ?_⟩
    repeat (refine Below.setCell ?_ (by first | (simp; done) | (simp; omega)) _)
    exact kB
  | true =>
    have c0d2 := kd2.c0; have c1d2 := kd2.c1; have c0d3 := kd3.c0; have c1d3 := kd3.c1
    have Hga := Lib.hid hga
    clear hga
    go_wp2_with fail
    clear c0d2 c1d2 c0d3 c1d3
    refine (good_calls n t _).mono ?_; rintro e w2 ⟨rfl, b2⟩
    replace kB := kB.trans (b2.mono kB.size)
    replace kd2 := kd2.below b2
    replace kd3 := kd3.below b2
    replace kd4 := kd4.below b2
    clear b2
    cases hgb : goodD n t with
    | false =>
      have hres : Hid (overO m s n t = none) := by show _ = _; unfold overO; rw [if_neg (by simp [hgb])]
      clear hgb
      have sc0 := kd4.c0
      have sc1 := kd4.c1
      have sf0 := kd4.f0
      have sf1 := kd4.f1
      go_wp2_with fail
      refine bodyPost_ret (v := normV none) (by simp [results, Try.results13, go_sem, normV, sc0, sc1, sf0, sf1]) rfl ⟨by rw [hres.out], ?_⟩
      repeat (refine Below.setCell ?_ (by first | (simp; done) | (simp; omega)) _)
      exact kB
    | true =>
      by_cases hn0 : n = 0
      · have hres : Hid (overO m s n t = none) := overO_zero hn0
        have hnb : (n == 0) = true := by simpa using hn0
        have c0d2 := kd2.c0; have c1d2 := kd2.c1; have c0d3 := kd3.c0; have c1d3 := kd3.c1
        clear hgb hn0
        have sc0 := kd4.c0
        have sc1 := kd4.c1
        have sf0 := kd4.f0
        have sf1 := kd4.f1
        go_wp2_with fail
        refine bodyPost_ret (v := normV none) (by simp [results, Try.results13, go_sem, normV, sc0, sc1, sf0, sf1]) rfl ⟨by rw [hres.out], ?_⟩
        repeat (refine Below.setCell ?_ (by first | (simp; done) | (simp; omega)) _)
        exact kB
      · have hnb : (n == 0) = false := by simpa using hn0
        have hga := Hga.out
        have hm := big_of hga hm1 hm2
        have hn := big_of hgb hn1 hn2
        obtain ⟨gs0, gs1, _, _⟩ := (goodD_iff m s).1 hga
        obtain ⟨gt0, gt1, _, _⟩ := (goodD_iff n t).1 hgb
        have hl1 := Lib.hid (fun W => spread_calls m (18 - s + t).toNat W hm (by omega))
        rw [show (((18 - s + t).toNat : Nat) : Int) = 18 - s + t by omega, show m.natAbs * 10 ^ (18 - s + t).toNat = dvd m s t from rfl] at hl1
        obtain ⟨neg, hneg⟩ : ∃ neg, (decide (m < 0) != decide (n < 0)) = neg := ⟨_, rfl⟩
        have hdf := Lib.hid (fun W => differ_calls m s n t W)
        rw [hneg] at hdf
        have hmg := Lib.hid (fun W => magnitude_callsB n W hn)
        have hxb : dvd m s t < 10 ^ 55 := by
          unfold dvd
          have h1 : (10 : Nat) ^ (18 - s + t).toNat ≤ 10 ^ 36 := Nat.pow_le_pow_right (by omega) (by omega)
          have h2 : m.natAbs * 10 ^ (18 - s + t).toNat ≤ big * 10 ^ 36 := Nat.mul_le_mul hm h1
          unfold big at h2
          omega
        have hov := Lib.hid (fun W => over_calls (dvd m s t) n.natAbs W hxb (by omega) hn)
        have hor := Lib.hid (fun h => overO_rest (m := m) (s := s) (n := n) (t := t) h)
        have hoq : Hid (dvd m s t % n.natAbs = 0 → overO m s n t = decOf neg (dvd m s t / n.natAbs) 18) := fun h => by
          unfold overO
          rw [if_pos ⟨hga, hgb, hn0, h⟩, hneg]
        have hdc := Lib.hid (fun W => decimal_calls neg (dvd m s t / n.natAbs) 18 W (Nat.lt_of_le_of_lt (Nat.div_le_self _ _) hxb) (by omega))
        rw [show ((18 : Nat) : Int) = 18 from rfl] at hdc
        obtain ⟨x, hx⟩ : ∃ x, x = dvd m s t := ⟨_, rfl⟩
        obtain ⟨y, hy⟩ : ∃ y, y = n.natAbs := ⟨_, rfl⟩
        rw [← hx] at hl1 hov hor hoq hdc
        rw [← hy] at hov hor hoq hdc hmg
        have c0d2 := kd2.c0; have c1d2 := kd2.c1; have c0d3 := kd3.c0; have c1d3 := kd3.c1
        clear hga hgb Hga hm hn hm1 hm2 hn1 hn2 hx hy hneg hxb hn0
        go_wp2_with fail
        clear c0d2 c1d2 c0d3 c1d3
        refine (hl1.out _).mono ?_; rintro e w3 ⟨rfl, b3⟩
        replace kB := kB.trans (b3.mono kB.size)
        replace kd2 := kd2.below b3
        replace kd3 := kd3.below b3
        replace kd4 := kd4.below b3
        clear b3
        have hz := SAt.new w3 (fun _ => 0)
        have hal := (Below.refl w3.heap.size w3).alloc (Nat.le_refl _) (.cells (sA (fun _ => 0)) 43)
        have hlt4 := kd4.lt
        rw [← zeros_sA] at hal
        have hz' : SAt (w3.alloc (.cells #[.int .u8 0, .int .u8 0, .int .u8 0, .int .u8 0, .int .u8 0, .int .u8 0, .int .u8 0, .int .u8 0, .int .u8 0, .int .u8 0, .int .u8 0, .int .u8 0, .int .u8 0, .int .u8 0, .int .u8 0, .int .u8 0, .int .u8 0, .int .u8 0, .int .u8 0, .int .u8 0, .int .u8 0, .int .u8 0, .int .u8 0, .int .u8 0, .int .u8 0, .int .u8 0, .int .u8 0, .int .u8 0, .int .u8 0, .int .u8 0, .int .u8 0, .int .u8 0, .int .u8 0, .int .u8 0, .int .u8 0, .int .u8 0, .int .u8 0, .int .u8 0, .int .u8 0, .int .u8 0, .int .u8 0, .int .u8 0, .int .u8 0, .int .u8 0, .int .u8 0, .int .u8 0, .int .u8 0, .int .u8 0, .int .u8 0, .int .u8 0, .int .u8 0, .int .u8 0, .int .u8 0, .int .u8 0, .int .u8 0] 43)) w3.heap.size (fun _ => 0) := by rw [zeros_sA]; exact hz
        have hzh := hz'.heap
        go_wp2_with (first
          | (refine wpList_store_row rfl 43 _ _ rfl w3.heap.size _ rfl rfl 43 _ hzh (by rw [sA_size]; exact sum_info) (by rw [sA_size, sA_size]) (sA_one _) ?_))
        have kr6 := hz'.row (dgt x)
        have hge := kB.size
        replace kB := below_setRow (kB.trans (hal.mono kB.size)) kB.size (sA (dgt x))
        replace kd2 := (kd2.below hal).row (g := w3.heap.size) (sA (dgt x)) (by omega)
        replace kd3 := (kd3.below hal).row (g := w3.heap.size) (sA (dgt x)) (by omega)
        replace kd4 := (kd4.below hal).row (g := w3.heap.size) (sA (dgt x)) (by omega)
        clear hz hal hz' hzh
        obtain ⟨w4, hw4⟩ : ∃ u, u = (w3.alloc (.cells #[.int .u8 0, .int .u8 0, .int .u8 0, .int .u8 0, .int .u8 0, .int .u8 0, .int .u8 0, .int .u8 0, .int .u8 0, .int .u8 0, .int .u8 0, .int .u8 0, .int .u8 0, .int .u8 0, .int .u8 0, .int .u8 0, .int .u8 0, .int .u8 0, .int .u8 0, .int .u8 0, .int .u8 0, .int .u8 0, .int .u8 0, .int .u8 0, .int .u8 0, .int .u8 0, .int .u8 0, .int .u8 0, .int .u8 0, .int .u8 0, .int .u8 0, .int .u8 0, .int .u8 0, .int .u8 0, .int .u8 0, .int .u8 0, .int .u8 0, .int .u8 0, .int .u8 0, .int .u8 0, .int .u8 0, .int .u8 0, .int .u8 0, .int .u8 0, .int .u8 0, .int .u8 0, .int .u8 0, .int .u8 0, .int .u8 0, .int .u8 0, .int .u8 0, .int .u8 0, .int .u8 0, .int .u8 0, .int .u8 0] 43)).setRow w3.heap.size (sA (dgt x)) := ⟨_, rfl⟩
        rw [← hw4] at kB kd2 kd3 kd4 kr6 ⊢
        clear hw4
        obtain ⟨b6, hb6⟩ : ∃ u, u = w3.heap.size := ⟨_, rfl⟩
        rw [← hb6] at kr6 hlt4 hge ⊢
        clear hb6
        obtain ⟨r, hr⟩ : ∃ r : Int, r = ((x % y : Nat) : Int) := ⟨_, rfl⟩
        rw [← hr] at hov
        have Hr := Lib.hid hr
        clear hr
        go_upto_region 4 with (fail)
        simp only [Act.put]
        go_cut [7, 8] (fun s7 s8 wx => ∃ b7, s7 = .pointer (some ⟨b7, 0, none⟩) ∧ s8 = .int .u64 r ∧ w.heap.size + 3 ≤ b7 ∧ Below w.heap.size w wx ∧ DecAt wx (w.heap.size) m s ∧ DecAt wx (w.heap.size + 1) n t ∧ DecAt wx (w.heap.size + 2) 0 0 ∧ SAt wx b7 (dgt (x / y)))
        case first =>
          clear hor hoq hdc Hr
          refine wp_region_noPanic ?_
          refine wp_region_held_drew (S := fun X => Below w.heap.size w X ∧ DecAt X (w.heap.size) m s ∧ DecAt X (w.heap.size + 1) n t ∧ SAt X b6 (dgt x)) (by kernel_rfl) ?_ (fun hHeld => ?_)
          · exact ⟨Below.drew kB, DecAt.drew kd2, DecAt.drew kd3, SAt.drew1 kr6⟩
          replace kB := Below.drew kB
          replace kd2 := DecAt.drew kd2
          replace kd3 := DecAt.drew kd3
          replace kd4 := DecAt.drew kd4
          replace kr6 := SAt.drew1 kr6
          obtain ⟨qw, hcur⟩ : ∃ uu, uu = w4.drew := ⟨_, rfl⟩
          rw [← hcur] at hHeld kB kd2 kd3 kd4 kr6 ⊢
          clear hcur
          refine wpAnyH_take (i := 0) (v := .agg (sA (dgt x))) (by simp only [List.getElem?_toArray, List.getElem?_cons_succ, List.getElem?_cons_zero]; rfl) (by kernel_rfl) (by kernel_rfl) (by kernel_rfl) (fun _ _ _ h => h) (yields_load_sA (by rfl) (.tmp 6) (by rfl) (b6) _ (by rfl) (fun _ hSw => (((hSw).2).2).2)) hHeld ?_
          try simp only [Act.put, List.setIfInBounds_toArray, List.set_cons_zero, List.set_cons_succ]
          refine wpAnyH_take (i := 1) (v := ?_) (by simp only [List.getElem?_toArray, List.getElem?_cons_succ, List.getElem?_cons_zero]; rfl) (by kernel_rfl) (by kernel_rfl) (by kernel_rfl) (fun _ _ _ h => h) (Or.inl ⟨by rfl, ?_⟩) hHeld ?_
          rotate_left
          · intro x hSw; first | (go_simp; done) | (go_simp; with_reducible rfl)
          try simp only [Act.put, List.setIfInBounds_toArray, List.set_cons_zero, List.set_cons_succ]
          refine wpAnyH_take (i := 2) (v := ?_) (by simp only [List.getElem?_toArray, List.getElem?_cons_succ, List.getElem?_cons_zero]; rfl) (by kernel_rfl) (by kernel_rfl) (by kernel_rfl) (fun _ _ _ h => h) (Or.inl ⟨by rfl, ?_⟩) hHeld ?_
          rotate_left
          · intro x hSw; (try dsimp only at hSw); obtain ⟨_, hd2, hd3, hr6⟩ := hSw; have c0d2 := hd2.c0; have c1d2 := hd2.c1; have c0d3 := hd3.c0; have c1d3 := hd3.c1; first | (go_simp; done) | (go_simp; with_reducible rfl)
          try simp only [Act.put, List.setIfInBounds_toArray, List.set_cons_zero, List.set_cons_succ]
          refine wpAnyH_ready (rs := [3, 8]) (by kernel_rfl) (by simp) ?_
          refine AllReadyH.cons (by simp only [List.getElem?_toArray, List.getElem?_cons_succ, List.getElem?_cons_zero]; rfl) (fun K hK => ?_) ?_
          · try go_simp
            refine (hmg.out _).mono ?_; rintro e wq1 ⟨rfl, q1⟩
            replace kB := kB.trans (q1.mono kB.size)
            replace kd2 := kd2.below q1
            replace kd3 := kd3.below q1
            replace kd4 := kd4.below q1
            replace kr6 := kr6.keep q1
            clear q1
            try go_wp2_with fail
            refine hK.out _ _ ?_ (fun hHeld => ?_)
            · exact ⟨kB, kd2, kd3, kr6⟩
            clear hK K
            try simp only [Act.put, List.setIfInBounds_toArray, List.set_cons_zero, List.set_cons_succ]
            refine wpAnyH_ready (rs := [4, 8]) (by kernel_rfl) (by simp) ?_
            refine AllReadyH.cons (by simp only [List.getElem?_toArray, List.getElem?_cons_succ, List.getElem?_cons_zero]; rfl) (fun K hK => ?_) ?_
            · try go_simp
              refine (hov.out _).mono ?_; rintro e wq2 ⟨rfl, q2⟩
              replace kB := kB.trans (q2.mono kB.size)
              replace kd2 := kd2.below q2
              replace kd3 := kd3.below q2
              replace kd4 := kd4.below q2
              replace kr6 := kr6.keep q2
              clear q2
              try go_wp2_with fail
              refine hK.out _ _ ?_ (fun hHeld => ?_)
              · exact ⟨kB, kd2, kd3, kr6⟩
              clear hK K
              try simp only [Act.put, List.setIfInBounds_toArray, List.set_cons_zero, List.set_cons_succ]
              refine wpAnyH_take (i := 5) (v := ?_) (by simp only [List.getElem?_toArray, List.getElem?_cons_succ, List.getElem?_cons_zero]; rfl) (by kernel_rfl) (by kernel_rfl) (by kernel_rfl) (fun _ _ _ h => h) (Or.inl ⟨by rfl, ?_⟩) hHeld ?_
              rotate_left
              · intro x hSw; first | (go_simp; done) | (go_simp; with_reducible rfl)
              try simp only [Act.put, List.setIfInBounds_toArray, List.set_cons_zero, List.set_cons_succ]
              refine wpAnyH_take (i := 6) (v := ?_) (by simp only [List.getElem?_toArray, List.getElem?_cons_succ, List.getElem?_cons_zero]; rfl) (by kernel_rfl) (by kernel_rfl) (by kernel_rfl) (fun _ _ _ h => h) (Or.inl ⟨by rfl, ?_⟩) hHeld ?_
              rotate_left
              · intro x hSw; first | (go_simp; done) | (go_simp; with_reducible rfl)
              try simp only [Act.put, List.setIfInBounds_toArray, List.set_cons_zero, List.set_cons_succ]
              refine wpAnyH_take (i := 7) (v := ?_) (by simp only [List.getElem?_toArray, List.getElem?_cons_succ, List.getElem?_cons_zero]; rfl) (by kernel_rfl) (by kernel_rfl) (by kernel_rfl) (fun _ _ _ h => h) (Or.inl ⟨by rfl, ?_⟩) hHeld ?_
              rotate_left
              · intro x hSw; first | (go_simp; done) | (go_simp; with_reducible rfl)
              try simp only [Act.put, List.setIfInBounds_toArray, List.set_cons_zero, List.set_cons_succ]
              refine wpAnyH_ready (rs := [8]) (by kernel_rfl) (by simp) ?_
              refine AllReadyH.cons (by simp only [List.getElem?_toArray, List.getElem?_cons_succ, List.getElem?_cons_zero]; rfl) (fun K hK => ?_) AllReadyH.nil
              go_simp
              rw [zeros_sA]
              have hge_b7 := kB.size
              have hne_b7_d2 := kd2.lt
              replace kd2 := kd2.alloc (.cells (sA (fun _ => 0)) 43)
              have hne_b7_d3 := kd3.lt
              replace kd3 := kd3.alloc (.cells (sA (fun _ => 0)) 43)
              have hne_b7_d4 := kd4.lt
              replace kd4 := kd4.alloc (.cells (sA (fun _ => 0)) 43)
              have hne_b7_r6 := kr6.lt
              replace kr6 := kr6.alloc (.cells (sA (fun _ => 0)) 43)
              replace kB := kb_alloc kB (Nat.le_refl _) (.cells (sA (fun _ => 0)) 43)
              have kr7 := SAt.new wq2 (fun _ => 0)
              obtain ⟨b7, hcur⟩ : ∃ uu, uu = wq2.heap.size := ⟨_, rfl⟩
              rw [← hcur] at hge_b7 hne_b7_d2 hne_b7_d3 hne_b7_d4 hne_b7_r6 kr7 ⊢
              clear hcur
              obtain ⟨q3, hcur⟩ : ∃ uu, uu = wq2.alloc (.cells (sA (fun _ => 0)) 43) := ⟨_, rfl⟩
              rw [← hcur] at kB kd2 kd3 kd4 kr6 kr7 ⊢
              clear hcur
              refine hK.out _ _ ?_ (fun hHeld => ?_)
              · exact ⟨kB, kd2, kd3, kr6⟩
              clear hK K
              try simp only [Act.put, List.setIfInBounds_toArray, List.set_cons_zero, List.set_cons_succ]
              have kr0 := kr7
              replace kB := below_setRow (g := b7) kB (by omega) (sA (dgt (x / y)))
              replace kd2 := kd2.row (g := b7) (sA (dgt (x / y))) (by omega)
              replace kd3 := kd3.row (g := b7) (sA (dgt (x / y))) (by omega)
              replace kd4 := kd4.row (g := b7) (sA (dgt (x / y))) (by omega)
              replace kr6 := kr6.otherRow (g := b7) (sA (dgt (x / y))) (by omega)
              replace kr7 := kr7.row (dgt (x / y))
              refine wpAnyH_ready (rs := [9]) (by kernel_rfl) (by simp) ?_
              refine ready_store_sA (by simp only [List.getElem?_toArray, List.getElem?_cons_succ, List.getElem?_cons_zero]; rfl) (by rfl) (.tmp 7) (.tmp 38) (by rfl) (b7) _ (dgt (x / y)) (by rfl) (by rfl) kr0 ?_ (fun hHeld => ?_)
              · exact ⟨kB, kd2, kd3, kr6⟩
              clear kr0
              try simp only [Act.put, List.setIfInBounds_toArray, List.set_cons_zero, List.set_cons_succ]
              obtain ⟨q4, hcur⟩ : ∃ uu, uu = q3.setRow (b7) (sA (dgt (x / y))) := ⟨_, rfl⟩
              rw [← hcur] at hHeld kB kd2 kd3 kd4 kr6 kr7 ⊢
              clear hcur
              refine wpAnyH_take (i := 10) (v := ?_) (by simp only [List.getElem?_toArray, List.getElem?_cons_succ, List.getElem?_cons_zero]; rfl) (by kernel_rfl) (by kernel_rfl) (by kernel_rfl) (fun _ _ _ h => h) (Or.inl ⟨by rfl, ?_⟩) hHeld ?_
              rotate_left
              · intro x hSw; first | (go_simp; done) | (go_simp; with_reducible rfl)
              try simp only [Act.put, List.setIfInBounds_toArray, List.set_cons_zero, List.set_cons_succ]
              refine wpAnyH_done (by kernel_rfl) ?_ _
              refine NoPanic.normal ?_
              go_wp2_with fail
              go_meet
              exact ⟨b7, rfl, rfl, by omega, kB, kd2, kd3, kd4, kr7⟩
            refine AllReadyH.cons (by simp only [List.getElem?_toArray, List.getElem?_cons_succ, List.getElem?_cons_zero]; rfl) (fun K hK => ?_) AllReadyH.nil
            go_simp
            rw [zeros_sA]
            have hge_b7 := kB.size
            have hne_b7_d2 := kd2.lt
            replace kd2 := kd2.alloc (.cells (sA (fun _ => 0)) 43)
            have hne_b7_d3 := kd3.lt
            replace kd3 := kd3.alloc (.cells (sA (fun _ => 0)) 43)
            have hne_b7_d4 := kd4.lt
            replace kd4 := kd4.alloc (.cells (sA (fun _ => 0)) 43)
            have hne_b7_r6 := kr6.lt
            replace kr6 := kr6.alloc (.cells (sA (fun _ => 0)) 43)
            replace kB := kb_alloc kB (Nat.le_refl _) (.cells (sA (fun _ => 0)) 43)
            have kr7 := SAt.new wq1 (fun _ => 0)
            obtain ⟨b7, hcur⟩ : ∃ uu, uu = wq1.heap.size := ⟨_, rfl⟩
            rw [← hcur] at hge_b7 hne_b7_d2 hne_b7_d3 hne_b7_d4 hne_b7_r6 kr7 ⊢
            clear hcur
            obtain ⟨q5, hcur⟩ : ∃ uu, uu = wq1.alloc (.cells (sA (fun _ => 0)) 43) := ⟨_, rfl⟩
            rw [← hcur] at kB kd2 kd3 kd4 kr6 kr7 ⊢
            clear hcur
            refine hK.out _ _ ?_ (fun hHeld => ?_)
            · exact ⟨kB, kd2, kd3, kr6⟩
            clear hK K
            try simp only [Act.put, List.setIfInBounds_toArray, List.set_cons_zero, List.set_cons_succ]
            refine wpAnyH_ready (rs := [4]) (by kernel_rfl) (by simp) ?_
            refine AllReadyH.cons (by simp only [List.getElem?_toArray, List.getElem?_cons_succ, List.getElem?_cons_zero]; rfl) (fun K hK => ?_) AllReadyH.nil
            try go_simp
            refine (hov.out _).mono ?_; rintro e wq6 ⟨rfl, q6⟩
            replace kB := kB.trans (q6.mono kB.size)
            replace kd2 := kd2.below q6
            replace kd3 := kd3.below q6
            replace kd4 := kd4.below q6
            replace kr6 := kr6.keep q6
            replace kr7 := kr7.keep q6
            clear q6
            try go_wp2_with fail
            refine hK.out _ _ ?_ (fun hHeld => ?_)
            · exact ⟨kB, kd2, kd3, kr6⟩
            clear hK K
            try simp only [Act.put, List.setIfInBounds_toArray, List.set_cons_zero, List.set_cons_succ]
            refine wpAnyH_take (i := 5) (v := ?_) (by simp only [List.getElem?_toArray, List.getElem?_cons_succ, List.getElem?_cons_zero]; rfl) (by kernel_rfl) (by kernel_rfl) (by kernel_rfl) (fun _ _ _ h => h) (Or.inl ⟨by rfl, ?_⟩) hHeld ?_
            rotate_left
            · intro x hSw; first | (go_simp; done) | (go_simp; with_reducible rfl)
            try simp only [Act.put, List.setIfInBounds_toArray, List.set_cons_zero, List.set_cons_succ]
            refine wpAnyH_take (i := 6) (v := ?_) (by simp only [List.getElem?_toArray, List.getElem?_cons_succ, List.getElem?_cons_zero]; rfl) (by kernel_rfl) (by kernel_rfl) (by kernel_rfl) (fun _ _ _ h => h) (Or.inl ⟨by rfl, ?_⟩) hHeld ?_
            rotate_left
            · intro x hSw; first | (go_simp; done) | (go_simp; with_reducible rfl)
            try simp only [Act.put, List.setIfInBounds_toArray, List.set_cons_zero, List.set_cons_succ]
            refine wpAnyH_take (i := 7) (v := ?_) (by simp only [List.getElem?_toArray, List.getElem?_cons_succ, List.getElem?_cons_zero]; rfl) (by kernel_rfl) (by kernel_rfl) (by kernel_rfl) (fun _ _ _ h => h) (Or.inl ⟨by rfl, ?_⟩) hHeld ?_
            rotate_left
            · intro x hSw; first | (go_simp; done) | (go_simp; with_reducible rfl)
            try simp only [Act.put, List.setIfInBounds_toArray, List.set_cons_zero, List.set_cons_succ]
            have kr0 := kr7
            replace kB := below_setRow (g := b7) kB (by omega) (sA (dgt (x / y)))
            replace kd2 := kd2.row (g := b7) (sA (dgt (x / y))) (by omega)
            replace kd3 := kd3.row (g := b7) (sA (dgt (x / y))) (by omega)
            replace kd4 := kd4.row (g := b7) (sA (dgt (x / y))) (by omega)
            replace kr6 := kr6.otherRow (g := b7) (sA (dgt (x / y))) (by omega)
            replace kr7 := kr7.row (dgt (x / y))
            refine wpAnyH_ready (rs := [9]) (by kernel_rfl) (by simp) ?_
            refine ready_store_sA (by simp only [List.getElem?_toArray, List.getElem?_cons_succ, List.getElem?_cons_zero]; rfl) (by rfl) (.tmp 7) (.tmp 38) (by rfl) (b7) _ (dgt (x / y)) (by rfl) (by rfl) kr0 ?_ (fun hHeld => ?_)
            · exact ⟨kB, kd2, kd3, kr6⟩
            clear kr0
            try simp only [Act.put, List.setIfInBounds_toArray, List.set_cons_zero, List.set_cons_succ]
            obtain ⟨q7, hcur⟩ : ∃ uu, uu = wq6.setRow (b7) (sA (dgt (x / y))) := ⟨_, rfl⟩
            rw [← hcur] at hHeld kB kd2 kd3 kd4 kr6 kr7 ⊢
            clear hcur
            refine wpAnyH_take (i := 10) (v := ?_) (by simp only [List.getElem?_toArray, List.getElem?_cons_succ, List.getElem?_cons_zero]; rfl) (by kernel_rfl) (by kernel_rfl) (by kernel_rfl) (fun _ _ _ h => h) (Or.inl ⟨by rfl, ?_⟩) hHeld ?_
            rotate_left
            · intro x hSw; first | (go_simp; done) | (go_simp; with_reducible rfl)
            try simp only [Act.put, List.setIfInBounds_toArray, List.set_cons_zero, List.set_cons_succ]
            refine wpAnyH_done (by kernel_rfl) ?_ _
            refine NoPanic.normal ?_
            go_wp2_with fail
            go_meet
            exact ⟨b7, rfl, rfl, by omega, kB, kd2, kd3, kd4, kr7⟩
          refine AllReadyH.cons (by simp only [List.getElem?_toArray, List.getElem?_cons_succ, List.getElem?_cons_zero]; rfl) (fun K hK => ?_) AllReadyH.nil
          go_simp
          rw [zeros_sA]
          have hge_b7 := kB.size
          have hne_b7_d2 := kd2.lt
          replace kd2 := kd2.alloc (.cells (sA (fun _ => 0)) 43)
          have hne_b7_d3 := kd3.lt
          replace kd3 := kd3.alloc (.cells (sA (fun _ => 0)) 43)
          have hne_b7_d4 := kd4.lt
          replace kd4 := kd4.alloc (.cells (sA (fun _ => 0)) 43)
          have hne_b7_r6 := kr6.lt
          replace kr6 := kr6.alloc (.cells (sA (fun _ => 0)) 43)
          replace kB := kb_alloc kB (Nat.le_refl _) (.cells (sA (fun _ => 0)) 43)
          have kr7 := SAt.new qw (fun _ => 0)
          obtain ⟨b7, hcur⟩ : ∃ uu, uu = qw.heap.size := ⟨_, rfl⟩
          rw [← hcur] at hge_b7 hne_b7_d2 hne_b7_d3 hne_b7_d4 hne_b7_r6 kr7 ⊢
          clear hcur
          obtain ⟨q8, hcur⟩ : ∃ uu, uu = qw.alloc (.cells (sA (fun _ => 0)) 43) := ⟨_, rfl⟩
          rw [← hcur] at kB kd2 kd3 kd4 kr6 kr7 ⊢
          clear hcur
          refine hK.out _ _ ?_ (fun hHeld => ?_)
          · exact ⟨kB, kd2, kd3, kr6⟩
          clear hK K
          try simp only [Act.put, List.setIfInBounds_toArray, List.set_cons_zero, List.set_cons_succ]
          refine wpAnyH_ready (rs := [3]) (by kernel_rfl) (by simp) ?_
          refine AllReadyH.cons (by simp only [List.getElem?_toArray, List.getElem?_cons_succ, List.getElem?_cons_zero]; rfl) (fun K hK => ?_) AllReadyH.nil
          try go_simp
          refine (hmg.out _).mono ?_; rintro e wq9 ⟨rfl, q9⟩
          replace kB := kB.trans (q9.mono kB.size)
          replace kd2 := kd2.below q9
          replace kd3 := kd3.below q9
          replace kd4 := kd4.below q9
          replace kr6 := kr6.keep q9
          replace kr7 := kr7.keep q9
          clear q9
          try go_wp2_with fail
          refine hK.out _ _ ?_ (fun hHeld => ?_)
          · exact ⟨kB, kd2, kd3, kr6⟩
          clear hK K
          try simp only [Act.put, List.setIfInBounds_toArray, List.set_cons_zero, List.set_cons_succ]
          refine wpAnyH_ready (rs := [4]) (by kernel_rfl) (by simp) ?_
          refine AllReadyH.cons (by simp only [List.getElem?_toArray, List.getElem?_cons_succ, List.getElem?_cons_zero]; rfl) (fun K hK => ?_) AllReadyH.nil
          try go_simp
          refine (hov.out _).mono ?_; rintro e wq10 ⟨rfl, q10⟩
          replace kB := kB.trans (q10.mono kB.size)
          replace kd2 := kd2.below q10
          replace kd3 := kd3.below q10
          replace kd4 := kd4.below q10
          replace kr6 := kr6.keep q10
          replace kr7 := kr7.keep q10
          clear q10
          try go_wp2_with fail
          refine hK.out _ _ ?_ (fun hHeld => ?_)
          · exact ⟨kB, kd2, kd3, kr6⟩
          clear hK K
          try simp only [Act.put, List.setIfInBounds_toArray, List.set_cons_zero, List.set_cons_succ]
          refine wpAnyH_take (i := 5) (v := ?_) (by simp only [List.getElem?_toArray, List.getElem?_cons_succ, List.getElem?_cons_zero]; rfl) (by kernel_rfl) (by kernel_rfl) (by kernel_rfl) (fun _ _ _ h => h) (Or.inl ⟨by rfl, ?_⟩) hHeld ?_
          rotate_left
          · intro x hSw; first | (go_simp; done) | (go_simp; with_reducible rfl)
          try simp only [Act.put, List.setIfInBounds_toArray, List.set_cons_zero, List.set_cons_succ]
          refine wpAnyH_take (i := 6) (v := ?_) (by simp only [List.getElem?_toArray, List.getElem?_cons_succ, List.getElem?_cons_zero]; rfl) (by kernel_rfl) (by kernel_rfl) (by kernel_rfl) (fun _ _ _ h => h) (Or.inl ⟨by rfl, ?_⟩) hHeld ?_
          rotate_left
          · intro x hSw; first | (go_simp; done) | (go_simp; with_reducible rfl)
          try simp only [Act.put, List.setIfInBounds_toArray, List.set_cons_zero, List.set_cons_succ]
          refine wpAnyH_take (i := 7) (v := ?_) (by simp only [List.getElem?_toArray, List.getElem?_cons_succ, List.getElem?_cons_zero]; rfl) (by kernel_rfl) (by kernel_rfl) (by kernel_rfl) (fun _ _ _ h => h) (Or.inl ⟨by rfl, ?_⟩) hHeld ?_
          rotate_left
          · intro x hSw; first | (go_simp; done) | (go_simp; with_reducible rfl)
          try simp only [Act.put, List.setIfInBounds_toArray, List.set_cons_zero, List.set_cons_succ]
          have kr0 := kr7
          replace kB := below_setRow (g := b7) kB (by omega) (sA (dgt (x / y)))
          replace kd2 := kd2.row (g := b7) (sA (dgt (x / y))) (by omega)
          replace kd3 := kd3.row (g := b7) (sA (dgt (x / y))) (by omega)
          replace kd4 := kd4.row (g := b7) (sA (dgt (x / y))) (by omega)
          replace kr6 := kr6.otherRow (g := b7) (sA (dgt (x / y))) (by omega)
          replace kr7 := kr7.row (dgt (x / y))
          refine wpAnyH_ready (rs := [9]) (by kernel_rfl) (by simp) ?_
          refine ready_store_sA (by simp only [List.getElem?_toArray, List.getElem?_cons_succ, List.getElem?_cons_zero]; rfl) (by rfl) (.tmp 7) (.tmp 38) (by rfl) (b7) _ (dgt (x / y)) (by rfl) (by rfl) kr0 ?_ (fun hHeld => ?_)
          · exact ⟨kB, kd2, kd3, kr6⟩
          clear kr0
          try simp only [Act.put, List.setIfInBounds_toArray, List.set_cons_zero, List.set_cons_succ]
          obtain ⟨q11, hcur⟩ : ∃ uu, uu = wq10.setRow (b7) (sA (dgt (x / y))) := ⟨_, rfl⟩
          rw [← hcur] at hHeld kB kd2 kd3 kd4 kr6 kr7 ⊢
          clear hcur
          refine wpAnyH_take (i := 10) (v := ?_) (by simp only [List.getElem?_toArray, List.getElem?_cons_succ, List.getElem?_cons_zero]; rfl) (by kernel_rfl) (by kernel_rfl) (by kernel_rfl) (fun _ _ _ h => h) (Or.inl ⟨by rfl, ?_⟩) hHeld ?_
          rotate_left
          · intro x hSw; first | (go_simp; done) | (go_simp; with_reducible rfl)
          try simp only [Act.put, List.setIfInBounds_toArray, List.set_cons_zero, List.set_cons_succ]
          refine wpAnyH_done (by kernel_rfl) ?_ _
          refine NoPanic.normal ?_
          go_wp2_with fail
          go_meet
          exact ⟨b7, rfl, rfl, by omega, kB, kd2, kd3, kd4, kr7⟩
        case rest =>
          clear kB kd2 kd3 kd4 hl1 hov hmg kr6 hlt4 hge
          obtain ⟨b7, rfl, rfl, h7, kB, kd2, kd3, kd4, kr7⟩ := hcut
          by_cases hr0 : r = 0
          · obtain ⟨a, b, c, hab⟩ := normV_form (decOf neg (x / y) 18)
            have hres : Hid (normV (overO m s n t) = .tuple #[dv2 a b, .bool c]) := by
              show _ = _
              rw [hoq.out (by have := Hr.out; omega), hab]
            rw [hab] at hdc
            have hrb : (r != 0) = false := by simpa using hr0
            clear hab hor hoq Hr hr0
            go_upto_region 7 with (fail)
            refine wp_region_noPanic ?_
            refine wp_region_held_drew (S := fun X => Below w.heap.size w X ∧ DecAt X (w.heap.size) m s ∧ DecAt X (w.heap.size + 1) n t ∧ SAt X b7 (dgt (x / y))) (by kernel_rfl) ?_ (fun hHeld => ?_)
            · exact ⟨Below.drew kB, DecAt.drew kd2, DecAt.drew kd3, SAt.drew1 kr7⟩
            replace kB := Below.drew kB
            replace kd2 := DecAt.drew kd2
            replace kd3 := DecAt.drew kd3
            replace kd4 := DecAt.drew kd4
            replace kr7 := SAt.drew1 kr7
            obtain ⟨qw, hcur⟩ : ∃ uu, uu = wc.drew := ⟨_, rfl⟩
            rw [← hcur] at hHeld kB kd2 kd3 kd4 kr7 ⊢
            clear hcur
            refine wpAnyH_take (i := 0) (v := ?_) (by simp only [List.getElem?_toArray, List.getElem?_cons_succ, List.getElem?_cons_zero]; rfl) (by kernel_rfl) (by kernel_rfl) (by kernel_rfl) (fun _ _ _ h => h) (Or.inl ⟨by rfl, ?_⟩) hHeld ?_
            rotate_left
            · intro x hSw; (try dsimp only at hSw); obtain ⟨_, hd2, hd3, hr7⟩ := hSw; have c0d2 := hd2.c0; have c1d2 := hd2.c1; have c0d3 := hd3.c0; have c1d3 := hd3.c1; first | (go_simp; done) | (go_simp; with_reducible rfl)
            try simp only [Act.put, List.setIfInBounds_toArray, List.set_cons_zero, List.set_cons_succ]
            refine wpAnyH_take (i := 1) (v := ?_) (by simp only [List.getElem?_toArray, List.getElem?_cons_succ, List.getElem?_cons_zero]; rfl) (by kernel_rfl) (by kernel_rfl) (by kernel_rfl) (fun _ _ _ h => h) (Or.inl ⟨by rfl, ?_⟩) hHeld ?_
            rotate_left
            · intro x hSw; (try dsimp only at hSw); obtain ⟨_, hd2, hd3, hr7⟩ := hSw; have c0d2 := hd2.c0; have c1d2 := hd2.c1; have c0d3 := hd3.c0; have c1d3 := hd3.c1; first | (go_simp; done) | (go_simp; with_reducible rfl)
            try simp only [Act.put, List.setIfInBounds_toArray, List.set_cons_zero, List.set_cons_succ]
            refine wpAnyH_take (i := 3) (v := .agg (sA (dgt (x / y)))) (by simp only [List.getElem?_toArray, List.getElem?_cons_succ, List.getElem?_cons_zero]; rfl) (by kernel_rfl) (by kernel_rfl) (by kernel_rfl) (fun _ _ _ h => h) (yields_load_sA (by rfl) (.tmp 7) (by rfl) (b7) _ (by rfl) (fun _ hSw => (((hSw).2).2).2)) hHeld ?_
            try simp only [Act.put, List.setIfInBounds_toArray, List.set_cons_zero, List.set_cons_succ]
            refine wpAnyH_ready (rs := [2]) (by kernel_rfl) (by simp) ?_
            refine AllReadyH.cons (by simp only [List.getElem?_toArray, List.getElem?_cons_succ, List.getElem?_cons_zero]; rfl) (fun K hK => ?_) AllReadyH.nil
            try go_simp
            refine (hdf.out _).mono ?_; rintro e wq1 ⟨rfl, q1⟩
            replace kB := kB.trans (q1.mono kB.size)
            replace kd2 := kd2.below q1
            replace kd3 := kd3.below q1
            replace kd4 := kd4.below q1
            replace kr7 := kr7.keep q1
            clear q1
            try go_wp2_with fail
            refine hK.out _ _ ?_ (fun hHeld => ?_)
            · exact ⟨kB, kd2, kd3, kr7⟩
            clear hK K
            try simp only [Act.put, List.setIfInBounds_toArray, List.set_cons_zero, List.set_cons_succ]
            refine wpAnyH_ready (rs := [4]) (by kernel_rfl) (by simp) ?_
            refine AllReadyH.cons (by simp only [List.getElem?_toArray, List.getElem?_cons_succ, List.getElem?_cons_zero]; rfl) (fun K hK => ?_) AllReadyH.nil
            try go_simp
            refine (hdc.out _).mono ?_; rintro e wq2 ⟨rfl, q2⟩
            replace kB := kB.trans (q2.mono kB.size)
            replace kd2 := kd2.below q2
            replace kd3 := kd3.below q2
            replace kd4 := kd4.below q2
            replace kr7 := kr7.keep q2
            clear q2
            try go_wp2_with fail
            refine hK.out _ _ ?_ (fun hHeld => ?_)
            · exact ⟨kB, kd2, kd3, kr7⟩
            clear hK K
            try simp only [Act.put, List.setIfInBounds_toArray, List.set_cons_zero, List.set_cons_succ]
            refine wpAnyH_take (i := 5) (v := ?_) (by simp only [List.getElem?_toArray, List.getElem?_cons_succ, List.getElem?_cons_zero]; rfl) (by kernel_rfl) (by kernel_rfl) (by kernel_rfl) (fun _ _ _ h => h) (Or.inl ⟨by rfl, ?_⟩) hHeld ?_
            rotate_left
            · intro x hSw; first | (go_simp; done) | (go_simp; with_reducible rfl)
            try simp only [Act.put, List.setIfInBounds_toArray, List.set_cons_zero, List.set_cons_succ]
            refine wpAnyH_take (i := 6) (v := ?_) (by simp only [List.getElem?_toArray, List.getElem?_cons_succ, List.getElem?_cons_zero]; rfl) (by kernel_rfl) (by kernel_rfl) (by kernel_rfl) (fun _ _ _ h => h) (Or.inl ⟨by rfl, ?_⟩) hHeld ?_
            rotate_left
            · intro x hSw; first | (go_simp; done) | (go_simp; with_reducible rfl)
            try simp only [Act.put, List.setIfInBounds_toArray, List.set_cons_zero, List.set_cons_succ]
            refine wpAnyH_ready (rs := [7]) (by kernel_rfl) (by simp) ?_
            refine AllReadyH.cons (by simp only [List.getElem?_toArray, List.getElem?_cons_succ, List.getElem?_cons_zero]; rfl) (fun K hK => ?_) AllReadyH.nil
            have sc0 := kd4.c0; have sc1 := kd4.c1; have sf0 := kd4.f0; have sf1 := kd4.f1
            go_simp
            clear sc0 sc1 sf0 sf1
            replace kB := below_put (g := (w.heap.size + 2)) kB (by omega) (a) (b)
            replace kd2 := kd2.putOther (g := (w.heap.size + 2)) (by omega) (a) (b)
            replace kd3 := kd3.putOther (g := (w.heap.size + 2)) (by omega) (a) (b)
            replace kd4 := kd4.put (a) (b)
            replace kr7 := kr7.putOther (g := (w.heap.size + 2)) (by omega) (a) (b)
            unfold putDec at kB kd2 kd3 kd4 kr7
            refine hK.out _ _ ?_ (fun hHeld => ?_)
            · exact ⟨kB, kd2, kd3, kr7⟩
            clear hK K
            try simp only [Act.put, List.setIfInBounds_toArray, List.set_cons_zero, List.set_cons_succ]
            refine wpAnyH_take (i := 8) (v := ?_) (by simp only [List.getElem?_toArray, List.getElem?_cons_succ, List.getElem?_cons_zero]; rfl) (by kernel_rfl) (by kernel_rfl) (by kernel_rfl) (fun _ _ _ h => h) (Or.inl ⟨by rfl, ?_⟩) hHeld ?_
            rotate_left
            · intro x hSw; first | (go_simp; done) | (go_simp; with_reducible rfl)
            try simp only [Act.put, List.setIfInBounds_toArray, List.set_cons_zero, List.set_cons_succ]
            refine wpAnyH_done (by kernel_rfl) ?_ _
            refine NoPanic.normal ?_
            have sc0 := kd4.c0
            have sc1 := kd4.c1
            try go_wp2_with fail
            refine bodyPost_ret (v := .tuple #[dv2 a b, .bool c]) (by simp [results, Try.results13, go_sem, sc0, sc1]) rfl ⟨by rw [hres.out], kB⟩
          · have hres : Hid (overO m s n t = none) := hor.out (by have := Hr.out; omega)
            have hrb : (r != 0) = true := by simpa using hr0
            clear hor hoq Hr hr0 hdc hdf
            have sc0 := kd4.c0
            have sc1 := kd4.c1
            have sf0 := kd4.f0
            have sf1 := kd4.f1
            go_wp2_with fail
            refine bodyPost_ret (v := normV none) (by simp [results, Try.results13, go_sem, normV, sc0, sc1, sf0, sf1]) rfl ⟨by rw [hres.out], ?_⟩
            repeat (refine Below.setCell ?_ (by first | (simp; done) | (simp; omega)) _)
            exact kB

end Go.Proofs.Ytpciohnnnpgpiaa
