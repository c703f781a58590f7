/- The walk of package sum's plus. -/
import Derived.Test.YtpciohnnnpgpiaaSumT
import Derived.Deep.DeepCutAuto
set_option linter.unusedVariables false
set_option linter.unusedSimpArgs false
namespace Go.Proofs.Ytpciohnnnpgpiaa
open Go.RowKit Dc
attribute [local go_sem ↓] Go.wp_at_zero Go.wp_at_succ

theorem normV_form (o : Option (Int × Nat)) : ∃ a b c, normV o = .tuple #[dv2 a b, .bool c] := by
  cases o with
  | none => exact ⟨0, 0, false, rfl⟩
  | some r => exact ⟨r.1, r.2, true, rfl⟩

set_option maxRecDepth 100000 in
set_option maxHeartbeats 8000000 in
theorem plus_walk (m s n t : Int) (w : World) (hm : m.natAbs ≤ big) (hgm : goodD m s = true) (hn1 : -9223372036854775808 ≤ n) (hn2 : n ≤ 9223372036854775807) :
    Calls Try.prog 23 #[dv2 m s, dv2 n t] w fun e w' => e = .returned (normV (plusO m s n t)) ∧ Below w.heap.size w w' := by
  have kB := kb_alloc (kb_alloc (kb_alloc (Below.refl w.heap.size w) (Nat.le_refl _) (.cells #[.int .i64 m, .int .i64 s] 25)) (Nat.le_refl _) (.cells #[.int .i64 n, .int .i64 t] 25)) (Nat.le_refl _) (.cells #[.int .i64 0, .int .i64 0] 25)
  have kd2 := ((DecAt.new w m s).alloc (.cells #[.int .i64 n, .int .i64 t] 25)).alloc (.cells #[.int .i64 0, .int .i64 0] 25)
  have kd3 := (DecAt.new (w.alloc (.cells #[.int .i64 m, .int .i64 s] 25)) n t).alloc (.cells #[.int .i64 0, .int .i64 0] 25)
  have kd4 := DecAt.new ((w.alloc (.cells #[.int .i64 m, .int .i64 s] 25)).alloc (.cells #[.int .i64 n, .int .i64 t] 25)) 0 0
  rw [show (w.alloc (.cells #[.int .i64 m, .int .i64 s] 25)).heap.size = w.heap.size + 1 by simp] at kd3
  rw [show ((w.alloc (.cells #[.int .i64 m, .int .i64 s] 25)).alloc (.cells #[.int .i64 n, .int .i64 t] 25)).heap.size = w.heap.size + 2 by simp] at kd4
  go_enter Try.func23, Try.ntmps23
  go_wp2_with fail
  refine (good_calls n t _).mono ?_; rintro e w1 ⟨rfl, b1⟩
  replace kB := kB.trans (b1.mono kB.size)
  replace kd2 := kd2.below b1
  replace kd3 := kd3.below b1
  replace kd4 := kd4.below b1
  clear b1
  cases hg : goodD n t with
  | false =>
    have hres : Hid (plusO m s n t = none) := by show _ = _; unfold plusO; rw [if_neg (by simp [hg])]
    clear hg
    have sc0 := kd4.c0
    have sc1 := kd4.c1
    have sf0 := kd4.f0
    have sf1 := kd4.f1
    go_wp2_with fail
    refine bodyPost_ret (v := normV none) (by simp [results, Try.results23, go_sem, normV, sc0, sc1, sf0, sf1]) rfl ⟨by rw [hres.out], ?_⟩
    repeat (refine Below.setCell ?_ (by first | (simp; done) | (simp; omega)) _)
    exact kB
  | true =>
    have hn := big_of hg hn1 hn2
    obtain ⟨gs0, gs1, _, _⟩ := (goodD_iff m s).1 hgm
    obtain ⟨gt0, gt1, _, _⟩ := (goodD_iff n t).1 hg
    have hpl : Hid (plusO m s n t = decI (zv m s + zv n t)) := by show _ = _; unfold plusO; rw [if_pos hg]
    have hl1 := Lib.hid (fun W => level_calls m s W hm gs0 gs1)
    have hl2 := Lib.hid (fun W => level_calls n t W hn gt0 gt1)
    have hb1 := lev_lt hm gs0
    have hb2 := lev_lt hn gt0
    have hsame := Lib.hid (fun h => decI_same (m := m) (s := s) (n := n) (t := t) h)
    have hless := Lib.hid (fun h h2 => decI_less (m := m) (s := s) (n := n) (t := t) h h2)
    have hmore := Lib.hid (fun h h2 => decI_more (m := m) (s := s) (n := n) (t := t) h h2)
    obtain ⟨x, hx⟩ : ∃ x, x = lev m s := ⟨_, rfl⟩
    obtain ⟨y, hy⟩ : ∃ y, y = lev n t := ⟨_, rfl⟩
    rw [← hx] at hl1 hb1 hsame hless hmore
    rw [← hy] at hl2 hb2 hsame hless hmore
    have Hb := Lib.hid (⟨hb1, hb2⟩ : _ ∧ _)
    clear hg hgm hm hn hn1 hn2 hx hy gs0 gs1 gt0 gt1 hb1 hb2
    go_upto_region 3 with (fail)
    go_cut [6, 7] (fun s6 s7 wx => ∃ b6 b7, s6 = .pointer (some ⟨b6, 0, none⟩) ∧ s7 = .pointer (some ⟨b7, 0, none⟩) ∧ w.heap.size + 3 ≤ b6 ∧ w.heap.size + 3 ≤ b7 ∧ b6 ≠ b7 ∧ Below w.heap.size w wx ∧ DecAt wx (w.heap.size) m s ∧ DecAt wx (w.heap.size + 1) n t ∧ DecAt wx (w.heap.size + 2) 0 0 ∧ SAt wx b6 (dgt x) ∧ SAt wx b7 (dgt y))
    case first =>
      clear hsame hless hmore Hb
      refine wp_region_noPanic ?_
      refine wp_region_held_drew (S := fun X => Below w.heap.size w X ∧ DecAt X (w.heap.size) m s ∧ DecAt X (w.heap.size + 1) n t) (by kernel_rfl) ?_ (fun hHeld => ?_)
      · exact ⟨Below.drew kB, DecAt.drew kd2, DecAt.drew kd3⟩
      replace kB := Below.drew kB
      replace kd2 := DecAt.drew kd2
      replace kd3 := DecAt.drew kd3
      replace kd4 := DecAt.drew kd4
      obtain ⟨qw, hcur⟩ : ∃ uu, uu = w1.drew := ⟨_, rfl⟩
      rw [← hcur] at hHeld kB kd2 kd3 kd4 ⊢
      clear hcur
      refine wpAnyH_take (i := 0) (v := ?_) (by simp only [List.getElem?_toArray, List.getElem?_cons_succ, List.getElem?_cons_zero]; rfl) (by kernel_rfl) (by kernel_rfl) (by kernel_rfl) (fun _ _ _ h => h) (Or.inl ⟨by rfl, ?_⟩) hHeld ?_
      rotate_left
      · intro x hSw; (try dsimp only at hSw); obtain ⟨_, hd2, hd3⟩ := hSw; have c0d2 := hd2.c0; have c1d2 := hd2.c1; have c0d3 := hd3.c0; have c1d3 := hd3.c1; first | (go_simp; done) | (go_simp; with_reducible rfl)
      try simp only [Act.put, List.setIfInBounds_toArray, List.set_cons_zero, List.set_cons_succ]
      refine wpAnyH_take (i := 2) (v := ?_) (by simp only [List.getElem?_toArray, List.getElem?_cons_succ, List.getElem?_cons_zero]; rfl) (by kernel_rfl) (by kernel_rfl) (by kernel_rfl) (fun _ _ _ h => h) (Or.inl ⟨by rfl, ?_⟩) hHeld ?_
      rotate_left
      · intro x hSw; (try dsimp only at hSw); obtain ⟨_, hd2, hd3⟩ := hSw; have c0d2 := hd2.c0; have c1d2 := hd2.c1; have c0d3 := hd3.c0; have c1d3 := hd3.c1; first | (go_simp; done) | (go_simp; with_reducible rfl)
      try simp only [Act.put, List.setIfInBounds_toArray, List.set_cons_zero, List.set_cons_succ]
      refine wpAnyH_ready (rs := [1, 4, 5]) (by kernel_rfl) (by simp) ?_
      refine AllReadyH.cons (by simp only [List.getElem?_toArray, List.getElem?_cons_succ, List.getElem?_cons_zero]; rfl) (fun K hK => ?_) ?_
      · try go_simp
        refine (hl1.out _).mono ?_; rintro e wq1 ⟨rfl, q1⟩
        replace kB := kB.trans (q1.mono kB.size)
        replace kd2 := kd2.below q1
        replace kd3 := kd3.below q1
        replace kd4 := kd4.below q1
        clear q1
        try go_wp2_with fail
        refine hK.out _ _ ?_ (fun hHeld => ?_)
        · exact ⟨kB, kd2, kd3⟩
        clear hK K
        try simp only [Act.put, List.setIfInBounds_toArray, List.set_cons_zero, List.set_cons_succ]
        refine wpAnyH_ready (rs := [3, 4, 5]) (by kernel_rfl) (by simp) ?_
        refine AllReadyH.cons (by simp only [List.getElem?_toArray, List.getElem?_cons_succ, List.getElem?_cons_zero]; rfl) (fun K hK => ?_) ?_
        · try go_simp
          refine (hl2.out _).mono ?_; rintro e wq2 ⟨rfl, q2⟩
          replace kB := kB.trans (q2.mono kB.size)
          replace kd2 := kd2.below q2
          replace kd3 := kd3.below q2
          replace kd4 := kd4.below q2
          clear q2
          try go_wp2_with fail
          refine hK.out _ _ ?_ (fun hHeld => ?_)
          · exact ⟨kB, kd2, kd3⟩
          clear hK K
          try simp only [Act.put, List.setIfInBounds_toArray, List.set_cons_zero, List.set_cons_succ]
          refine wpAnyH_ready (rs := [4, 5]) (by kernel_rfl) (by simp) ?_
          refine AllReadyH.cons (by simp only [List.getElem?_toArray, List.getElem?_cons_succ, List.getElem?_cons_zero]; rfl) (fun K hK => ?_) ?_
          · go_simp
            rw [zeros_sA]
            have hge_b6 := kB.size
            have hne_b6_d2 := kd2.lt
            replace kd2 := kd2.alloc (.cells (sA (fun _ => 0)) 43)
            have hne_b6_d3 := kd3.lt
            replace kd3 := kd3.alloc (.cells (sA (fun _ => 0)) 43)
            have hne_b6_d4 := kd4.lt
            replace kd4 := kd4.alloc (.cells (sA (fun _ => 0)) 43)
            replace kB := kb_alloc kB (Nat.le_refl _) (.cells (sA (fun _ => 0)) 43)
            have kr6 := SAt.new wq2 (fun _ => 0)
            obtain ⟨b6, hcur⟩ : ∃ uu, uu = wq2.heap.size := ⟨_, rfl⟩
            rw [← hcur] at hge_b6 hne_b6_d2 hne_b6_d3 hne_b6_d4 kr6 ⊢
            clear hcur
            obtain ⟨q3, hcur⟩ : ∃ uu, uu = wq2.alloc (.cells (sA (fun _ => 0)) 43) := ⟨_, rfl⟩
            rw [← hcur] at kB kd2 kd3 kd4 kr6 ⊢
            clear hcur
            refine hK.out _ _ ?_ (fun hHeld => ?_)
            · exact ⟨kB, kd2, kd3⟩
            clear hK K
            try simp only [Act.put, List.setIfInBounds_toArray, List.set_cons_zero, List.set_cons_succ]
            refine wpAnyH_ready (rs := [5]) (by kernel_rfl) (by simp) ?_
            refine AllReadyH.cons (by simp only [List.getElem?_toArray, List.getElem?_cons_succ, List.getElem?_cons_zero]; rfl) (fun K hK => ?_) AllReadyH.nil
            go_simp
            rw [zeros_sA]
            have hge_b7 := kB.size
            have hne_b7_d2 := kd2.lt
            replace kd2 := kd2.alloc (.cells (sA (fun _ => 0)) 43)
            have hne_b7_d3 := kd3.lt
            replace kd3 := kd3.alloc (.cells (sA (fun _ => 0)) 43)
            have hne_b7_d4 := kd4.lt
            replace kd4 := kd4.alloc (.cells (sA (fun _ => 0)) 43)
            have hne_b7_r6 := kr6.lt
            replace kr6 := kr6.alloc (.cells (sA (fun _ => 0)) 43)
            replace kB := kb_alloc kB (Nat.le_refl _) (.cells (sA (fun _ => 0)) 43)
            have kr7 := SAt.new q3 (fun _ => 0)
            obtain ⟨b7, hcur⟩ : ∃ uu, uu = q3.heap.size := ⟨_, rfl⟩
            rw [← hcur] at hge_b7 hne_b7_d2 hne_b7_d3 hne_b7_d4 hne_b7_r6 kr7 ⊢
            clear hcur
            obtain ⟨q4, hcur⟩ : ∃ uu, uu = q3.alloc (.cells (sA (fun _ => 0)) 43) := ⟨_, rfl⟩
            rw [← hcur] at kB kd2 kd3 kd4 kr6 kr7 ⊢
            clear hcur
            refine hK.out _ _ ?_ (fun hHeld => ?_)
            · exact ⟨kB, kd2, kd3⟩
            clear hK K
            try simp only [Act.put, List.setIfInBounds_toArray, List.set_cons_zero, List.set_cons_succ]
            have kr0 := kr6
            replace kB := below_setRow (g := b6) kB (by omega) (sA (dgt x))
            replace kd2 := kd2.row (g := b6) (sA (dgt x)) (by omega)
            replace kd3 := kd3.row (g := b6) (sA (dgt x)) (by omega)
            replace kd4 := kd4.row (g := b6) (sA (dgt x)) (by omega)
            replace kr6 := kr6.row (dgt x)
            replace kr7 := kr7.otherRow (g := b6) (sA (dgt x)) (by omega)
            refine wpAnyH_ready (rs := [6]) (by kernel_rfl) (by simp) ?_
            refine ready_store_sA (by simp only [List.getElem?_toArray, List.getElem?_cons_succ, List.getElem?_cons_zero]; rfl) (by rfl) (.tmp 6) (.tmp 13) (by rfl) (b6) _ (dgt x) (by rfl) (by rfl) kr0 ?_ (fun hHeld => ?_)
            · exact ⟨kB, kd2, kd3⟩
            clear kr0
            try simp only [Act.put, List.setIfInBounds_toArray, List.set_cons_zero, List.set_cons_succ]
            obtain ⟨q5, hcur⟩ : ∃ uu, uu = q4.setRow (b6) (sA (dgt x)) := ⟨_, rfl⟩
            rw [← hcur] at hHeld kB kd2 kd3 kd4 kr6 kr7 ⊢
            clear hcur
            have kr0 := kr7
            replace kB := below_setRow (g := b7) kB (by omega) (sA (dgt y))
            replace kd2 := kd2.row (g := b7) (sA (dgt y)) (by omega)
            replace kd3 := kd3.row (g := b7) (sA (dgt y)) (by omega)
            replace kd4 := kd4.row (g := b7) (sA (dgt y)) (by omega)
            replace kr6 := kr6.otherRow (g := b7) (sA (dgt y)) (by omega)
            replace kr7 := kr7.row (dgt y)
            refine wpAnyH_ready (rs := [7]) (by kernel_rfl) (by simp) ?_
            refine ready_store_sA (by simp only [List.getElem?_toArray, List.getElem?_cons_succ, List.getElem?_cons_zero]; rfl) (by rfl) (.tmp 7) (.tmp 15) (by rfl) (b7) _ (dgt y) (by rfl) (by rfl) kr0 ?_ (fun hHeld => ?_)
            · exact ⟨kB, kd2, kd3⟩
            clear kr0
            try simp only [Act.put, List.setIfInBounds_toArray, List.set_cons_zero, List.set_cons_succ]
            obtain ⟨q6, hcur⟩ : ∃ uu, uu = q5.setRow (b7) (sA (dgt y)) := ⟨_, rfl⟩
            rw [← hcur] at hHeld kB kd2 kd3 kd4 kr6 kr7 ⊢
            clear hcur
            refine wpAnyH_done (by kernel_rfl) ?_ _
            refine NoPanic.normal ?_
            go_wp2_with fail
            go_meet
            exact ⟨b6, b7, rfl, rfl, by omega, by omega, by omega, kB, kd2, kd3, kd4, kr6, kr7⟩
          refine AllReadyH.cons (by simp only [List.getElem?_toArray, List.getElem?_cons_succ, List.getElem?_cons_zero]; rfl) (fun K hK => ?_) AllReadyH.nil
          go_simp
          rw [zeros_sA]
          have hge_b7 := kB.size
          have hne_b7_d2 := kd2.lt
          replace kd2 := kd2.alloc (.cells (sA (fun _ => 0)) 43)
          have hne_b7_d3 := kd3.lt
          replace kd3 := kd3.alloc (.cells (sA (fun _ => 0)) 43)
          have hne_b7_d4 := kd4.lt
          replace kd4 := kd4.alloc (.cells (sA (fun _ => 0)) 43)
          replace kB := kb_alloc kB (Nat.le_refl _) (.cells (sA (fun _ => 0)) 43)
          have kr7 := SAt.new wq2 (fun _ => 0)
          obtain ⟨b7, hcur⟩ : ∃ uu, uu = wq2.heap.size := ⟨_, rfl⟩
          rw [← hcur] at hge_b7 hne_b7_d2 hne_b7_d3 hne_b7_d4 kr7 ⊢
          clear hcur
          obtain ⟨q7, hcur⟩ : ∃ uu, uu = wq2.alloc (.cells (sA (fun _ => 0)) 43) := ⟨_, rfl⟩
          rw [← hcur] at kB kd2 kd3 kd4 kr7 ⊢
          clear hcur
          refine hK.out _ _ ?_ (fun hHeld => ?_)
          · exact ⟨kB, kd2, kd3⟩
          clear hK K
          try simp only [Act.put, List.setIfInBounds_toArray, List.set_cons_zero, List.set_cons_succ]
          refine wpAnyH_ready (rs := [4]) (by kernel_rfl) (by simp) ?_
          refine AllReadyH.cons (by simp only [List.getElem?_toArray, List.getElem?_cons_succ, List.getElem?_cons_zero]; rfl) (fun K hK => ?_) AllReadyH.nil
          go_simp
          rw [zeros_sA]
          have hge_b6 := kB.size
          have hne_b6_d2 := kd2.lt
          replace kd2 := kd2.alloc (.cells (sA (fun _ => 0)) 43)
          have hne_b6_d3 := kd3.lt
          replace kd3 := kd3.alloc (.cells (sA (fun _ => 0)) 43)
          have hne_b6_d4 := kd4.lt
          replace kd4 := kd4.alloc (.cells (sA (fun _ => 0)) 43)
          have hne_b6_r7 := kr7.lt
          replace kr7 := kr7.alloc (.cells (sA (fun _ => 0)) 43)
          replace kB := kb_alloc kB (Nat.le_refl _) (.cells (sA (fun _ => 0)) 43)
          have kr6 := SAt.new q7 (fun _ => 0)
          obtain ⟨b6, hcur⟩ : ∃ uu, uu = q7.heap.size := ⟨_, rfl⟩
          rw [← hcur] at hge_b6 hne_b6_d2 hne_b6_d3 hne_b6_d4 hne_b6_r7 kr6 ⊢
          clear hcur
          obtain ⟨q8, hcur⟩ : ∃ uu, uu = q7.alloc (.cells (sA (fun _ => 0)) 43) := ⟨_, rfl⟩
          rw [← hcur] at kB kd2 kd3 kd4 kr7 kr6 ⊢
          clear hcur
          refine hK.out _ _ ?_ (fun hHeld => ?_)
          · exact ⟨kB, kd2, kd3⟩
          clear hK K
          try simp only [Act.put, List.setIfInBounds_toArray, List.set_cons_zero, List.set_cons_succ]
          have kr0 := kr6
          replace kB := below_setRow (g := b6) kB (by omega) (sA (dgt x))
          replace kd2 := kd2.row (g := b6) (sA (dgt x)) (by omega)
          replace kd3 := kd3.row (g := b6) (sA (dgt x)) (by omega)
          replace kd4 := kd4.row (g := b6) (sA (dgt x)) (by omega)
          replace kr7 := kr7.otherRow (g := b6) (sA (dgt x)) (by omega)
          replace kr6 := kr6.row (dgt x)
          refine wpAnyH_ready (rs := [6]) (by kernel_rfl) (by simp) ?_
          refine ready_store_sA (by simp only [List.getElem?_toArray, List.getElem?_cons_succ, List.getElem?_cons_zero]; rfl) (by rfl) (.tmp 6) (.tmp 13) (by rfl) (b6) _ (dgt x) (by rfl) (by rfl) kr0 ?_ (fun hHeld => ?_)
          · exact ⟨kB, kd2, kd3⟩
          clear kr0
          try simp only [Act.put, List.setIfInBounds_toArray, List.set_cons_zero, List.set_cons_succ]
          obtain ⟨q9, hcur⟩ : ∃ uu, uu = q8.setRow (b6) (sA (dgt x)) := ⟨_, rfl⟩
          rw [← hcur] at hHeld kB kd2 kd3 kd4 kr7 kr6 ⊢
          clear hcur
          have kr0 := kr7
          replace kB := below_setRow (g := b7) kB (by omega) (sA (dgt y))
          replace kd2 := kd2.row (g := b7) (sA (dgt y)) (by omega)
          replace kd3 := kd3.row (g := b7) (sA (dgt y)) (by omega)
          replace kd4 := kd4.row (g := b7) (sA (dgt y)) (by omega)
          replace kr7 := kr7.row (dgt y)
          replace kr6 := kr6.otherRow (g := b7) (sA (dgt y)) (by omega)
          refine wpAnyH_ready (rs := [7]) (by kernel_rfl) (by simp) ?_
          refine ready_store_sA (by simp only [List.getElem?_toArray, List.getElem?_cons_succ, List.getElem?_cons_zero]; rfl) (by rfl) (.tmp 7) (.tmp 15) (by rfl) (b7) _ (dgt y) (by rfl) (by rfl) kr0 ?_ (fun hHeld => ?_)
          · exact ⟨kB, kd2, kd3⟩
          clear kr0
          try simp only [Act.put, List.setIfInBounds_toArray, List.set_cons_zero, List.set_cons_succ]
          obtain ⟨q10, hcur⟩ : ∃ uu, uu = q9.setRow (b7) (sA (dgt y)) := ⟨_, rfl⟩
          rw [← hcur] at hHeld kB kd2 kd3 kd4 kr7 kr6 ⊢
          clear hcur
          refine wpAnyH_done (by kernel_rfl) ?_ _
          refine NoPanic.normal ?_
          go_wp2_with fail
          go_meet
          exact ⟨b6, b7, rfl, rfl, by omega, by omega, by omega, kB, kd2, kd3, kd4, kr6, kr7⟩
        refine AllReadyH.cons (by simp only [List.getElem?_toArray, List.getElem?_cons_succ, List.getElem?_cons_zero]; rfl) (fun K hK => ?_) ?_
        · go_simp
          rw [zeros_sA]
          have hge_b6 := kB.size
          have hne_b6_d2 := kd2.lt
          replace kd2 := kd2.alloc (.cells (sA (fun _ => 0)) 43)
          have hne_b6_d3 := kd3.lt
          replace kd3 := kd3.alloc (.cells (sA (fun _ => 0)) 43)
          have hne_b6_d4 := kd4.lt
          replace kd4 := kd4.alloc (.cells (sA (fun _ => 0)) 43)
          replace kB := kb_alloc kB (Nat.le_refl _) (.cells (sA (fun _ => 0)) 43)
          have kr6 := SAt.new wq1 (fun _ => 0)
          obtain ⟨b6, hcur⟩ : ∃ uu, uu = wq1.heap.size := ⟨_, rfl⟩
          rw [← hcur] at hge_b6 hne_b6_d2 hne_b6_d3 hne_b6_d4 kr6 ⊢
          clear hcur
          obtain ⟨q11, hcur⟩ : ∃ uu, uu = wq1.alloc (.cells (sA (fun _ => 0)) 43) := ⟨_, rfl⟩
          rw [← hcur] at kB kd2 kd3 kd4 kr6 ⊢
          clear hcur
          refine hK.out _ _ ?_ (fun hHeld => ?_)
          · exact ⟨kB, kd2, kd3⟩
          clear hK K
          try simp only [Act.put, List.setIfInBounds_toArray, List.set_cons_zero, List.set_cons_succ]
          refine wpAnyH_ready (rs := [3, 5]) (by kernel_rfl) (by simp) ?_
          refine AllReadyH.cons (by simp only [List.getElem?_toArray, List.getElem?_cons_succ, List.getElem?_cons_zero]; rfl) (fun K hK => ?_) ?_
          · try go_simp
            refine (hl2.out _).mono ?_; rintro e wq12 ⟨rfl, q12⟩
            replace kB := kB.trans (q12.mono kB.size)
            replace kd2 := kd2.below q12
            replace kd3 := kd3.below q12
            replace kd4 := kd4.below q12
            replace kr6 := kr6.keep q12
            clear q12
            try go_wp2_with fail
            refine hK.out _ _ ?_ (fun hHeld => ?_)
            · exact ⟨kB, kd2, kd3⟩
            clear hK K
            try simp only [Act.put, List.setIfInBounds_toArray, List.set_cons_zero, List.set_cons_succ]
            refine wpAnyH_ready (rs := [5]) (by kernel_rfl) (by simp) ?_
            refine AllReadyH.cons (by simp only [List.getElem?_toArray, List.getElem?_cons_succ, List.getElem?_cons_zero]; rfl) (fun K hK => ?_) AllReadyH.nil
            go_simp
            rw [zeros_sA]
            have hge_b7 := kB.size
            have hne_b7_d2 := kd2.lt
            replace kd2 := kd2.alloc (.cells (sA (fun _ => 0)) 43)
            have hne_b7_d3 := kd3.lt
            replace kd3 := kd3.alloc (.cells (sA (fun _ => 0)) 43)
            have hne_b7_d4 := kd4.lt
            replace kd4 := kd4.alloc (.cells (sA (fun _ => 0)) 43)
            have hne_b7_r6 := kr6.lt
            replace kr6 := kr6.alloc (.cells (sA (fun _ => 0)) 43)
            replace kB := kb_alloc kB (Nat.le_refl _) (.cells (sA (fun _ => 0)) 43)
            have kr7 := SAt.new wq12 (fun _ => 0)
            obtain ⟨b7, hcur⟩ : ∃ uu, uu = wq12.heap.size := ⟨_, rfl⟩
            rw [← hcur] at hge_b7 hne_b7_d2 hne_b7_d3 hne_b7_d4 hne_b7_r6 kr7 ⊢
            clear hcur
            obtain ⟨q13, hcur⟩ : ∃ uu, uu = wq12.alloc (.cells (sA (fun _ => 0)) 43) := ⟨_, rfl⟩
            rw [← hcur] at kB kd2 kd3 kd4 kr6 kr7 ⊢
            clear hcur
            refine hK.out _ _ ?_ (fun hHeld => ?_)
            · exact ⟨kB, kd2, kd3⟩
            clear hK K
            try simp only [Act.put, List.setIfInBounds_toArray, List.set_cons_zero, List.set_cons_succ]
            have kr0 := kr6
            replace kB := below_setRow (g := b6) kB (by omega) (sA (dgt x))
            replace kd2 := kd2.row (g := b6) (sA (dgt x)) (by omega)
            replace kd3 := kd3.row (g := b6) (sA (dgt x)) (by omega)
            replace kd4 := kd4.row (g := b6) (sA (dgt x)) (by omega)
            replace kr6 := kr6.row (dgt x)
            replace kr7 := kr7.otherRow (g := b6) (sA (dgt x)) (by omega)
            refine wpAnyH_ready (rs := [6]) (by kernel_rfl) (by simp) ?_
            refine ready_store_sA (by simp only [List.getElem?_toArray, List.getElem?_cons_succ, List.getElem?_cons_zero]; rfl) (by rfl) (.tmp 6) (.tmp 13) (by rfl) (b6) _ (dgt x) (by rfl) (by rfl) kr0 ?_ (fun hHeld => ?_)
            · exact ⟨kB, kd2, kd3⟩
            clear kr0
            try simp only [Act.put, List.setIfInBounds_toArray, List.set_cons_zero, List.set_cons_succ]
            obtain ⟨q14, hcur⟩ : ∃ uu, uu = q13.setRow (b6) (sA (dgt x)) := ⟨_, rfl⟩
            rw [← hcur] at hHeld kB kd2 kd3 kd4 kr6 kr7 ⊢
            clear hcur
            have kr0 := kr7
            replace kB := below_setRow (g := b7) kB (by omega) (sA (dgt y))
            replace kd2 := kd2.row (g := b7) (sA (dgt y)) (by omega)
            replace kd3 := kd3.row (g := b7) (sA (dgt y)) (by omega)
            replace kd4 := kd4.row (g := b7) (sA (dgt y)) (by omega)
            replace kr6 := kr6.otherRow (g := b7) (sA (dgt y)) (by omega)
            replace kr7 := kr7.row (dgt y)
            refine wpAnyH_ready (rs := [7]) (by kernel_rfl) (by simp) ?_
            refine ready_store_sA (by simp only [List.getElem?_toArray, List.getElem?_cons_succ, List.getElem?_cons_zero]; rfl) (by rfl) (.tmp 7) (.tmp 15) (by rfl) (b7) _ (dgt y) (by rfl) (by rfl) kr0 ?_ (fun hHeld => ?_)
            · exact ⟨kB, kd2, kd3⟩
            clear kr0
            try simp only [Act.put, List.setIfInBounds_toArray, List.set_cons_zero, List.set_cons_succ]
            obtain ⟨q15, hcur⟩ : ∃ uu, uu = q14.setRow (b7) (sA (dgt y)) := ⟨_, rfl⟩
            rw [← hcur] at hHeld kB kd2 kd3 kd4 kr6 kr7 ⊢
            clear hcur
            refine wpAnyH_done (by kernel_rfl) ?_ _
            refine NoPanic.normal ?_
            go_wp2_with fail
            go_meet
            exact ⟨b6, b7, rfl, rfl, by omega, by omega, by omega, kB, kd2, kd3, kd4, kr6, kr7⟩
          refine AllReadyH.cons (by simp only [List.getElem?_toArray, List.getElem?_cons_succ, List.getElem?_cons_zero]; rfl) (fun K hK => ?_) AllReadyH.nil
          go_simp
          rw [zeros_sA]
          have hge_b7 := kB.size
          have hne_b7_d2 := kd2.lt
          replace kd2 := kd2.alloc (.cells (sA (fun _ => 0)) 43)
          have hne_b7_d3 := kd3.lt
          replace kd3 := kd3.alloc (.cells (sA (fun _ => 0)) 43)
          have hne_b7_d4 := kd4.lt
          replace kd4 := kd4.alloc (.cells (sA (fun _ => 0)) 43)
          have hne_b7_r6 := kr6.lt
          replace kr6 := kr6.alloc (.cells (sA (fun _ => 0)) 43)
          replace kB := kb_alloc kB (Nat.le_refl _) (.cells (sA (fun _ => 0)) 43)
          have kr7 := SAt.new q11 (fun _ => 0)
          obtain ⟨b7, hcur⟩ : ∃ uu, uu = q11.heap.size := ⟨_, rfl⟩
          rw [← hcur] at hge_b7 hne_b7_d2 hne_b7_d3 hne_b7_d4 hne_b7_r6 kr7 ⊢
          clear hcur
          obtain ⟨q16, hcur⟩ : ∃ uu, uu = q11.alloc (.cells (sA (fun _ => 0)) 43) := ⟨_, rfl⟩
          rw [← hcur] at kB kd2 kd3 kd4 kr6 kr7 ⊢
          clear hcur
          refine hK.out _ _ ?_ (fun hHeld => ?_)
          · exact ⟨kB, kd2, kd3⟩
          clear hK K
          try simp only [Act.put, List.setIfInBounds_toArray, List.set_cons_zero, List.set_cons_succ]
          refine wpAnyH_ready (rs := [3]) (by kernel_rfl) (by simp) ?_
          refine AllReadyH.cons (by simp only [List.getElem?_toArray, List.getElem?_cons_succ, List.getElem?_cons_zero]; rfl) (fun K hK => ?_) AllReadyH.nil
          try go_simp
          refine (hl2.out _).mono ?_; rintro e wq17 ⟨rfl, q17⟩
          replace kB := kB.trans (q17.mono kB.size)
          replace kd2 := kd2.below q17
          replace kd3 := kd3.below q17
          replace kd4 := kd4.below q17
          replace kr6 := kr6.keep q17
          replace kr7 := kr7.keep q17
          clear q17
          try go_wp2_with fail
          refine hK.out _ _ ?_ (fun hHeld => ?_)
          · exact ⟨kB, kd2, kd3⟩
          clear hK K
          try simp only [Act.put, List.setIfInBounds_toArray, List.set_cons_zero, List.set_cons_succ]
          have kr0 := kr6
          replace kB := below_setRow (g := b6) kB (by omega) (sA (dgt x))
          replace kd2 := kd2.row (g := b6) (sA (dgt x)) (by omega)
          replace kd3 := kd3.row (g := b6) (sA (dgt x)) (by omega)
          replace kd4 := kd4.row (g := b6) (sA (dgt x)) (by omega)
          replace kr6 := kr6.row (dgt x)
          replace kr7 := kr7.otherRow (g := b6) (sA (dgt x)) (by omega)
          refine wpAnyH_ready (rs := [6]) (by kernel_rfl) (by simp) ?_
          refine ready_store_sA (by simp only [List.getElem?_toArray, List.getElem?_cons_succ, List.getElem?_cons_zero]; rfl) (by rfl) (.tmp 6) (.tmp 13) (by rfl) (b6) _ (dgt x) (by rfl) (by rfl) kr0 ?_ (fun hHeld => ?_)
          · exact ⟨kB, kd2, kd3⟩
          clear kr0
          try simp only [Act.put, List.setIfInBounds_toArray, List.set_cons_zero, List.set_cons_succ]
          obtain ⟨q18, hcur⟩ : ∃ uu, uu = wq17.setRow (b6) (sA (dgt x)) := ⟨_, rfl⟩
          rw [← hcur] at hHeld kB kd2 kd3 kd4 kr6 kr7 ⊢
          clear hcur
          have kr0 := kr7
          replace kB := below_setRow (g := b7) kB (by omega) (sA (dgt y))
          replace kd2 := kd2.row (g := b7) (sA (dgt y)) (by omega)
          replace kd3 := kd3.row (g := b7) (sA (dgt y)) (by omega)
          replace kd4 := kd4.row (g := b7) (sA (dgt y)) (by omega)
          replace kr6 := kr6.otherRow (g := b7) (sA (dgt y)) (by omega)
          replace kr7 := kr7.row (dgt y)
          refine wpAnyH_ready (rs := [7]) (by kernel_rfl) (by simp) ?_
          refine ready_store_sA (by simp only [List.getElem?_toArray, List.getElem?_cons_succ, List.getElem?_cons_zero]; rfl) (by rfl) (.tmp 7) (.tmp 15) (by rfl) (b7) _ (dgt y) (by rfl) (by rfl) kr0 ?_ (fun hHeld => ?_)
          · exact ⟨kB, kd2, kd3⟩
          clear kr0
          try simp only [Act.put, List.setIfInBounds_toArray, List.set_cons_zero, List.set_cons_succ]
          obtain ⟨q19, hcur⟩ : ∃ uu, uu = q18.setRow (b7) (sA (dgt y)) := ⟨_, rfl⟩
          rw [← hcur] at hHeld kB kd2 kd3 kd4 kr6 kr7 ⊢
          clear hcur
          refine wpAnyH_done (by kernel_rfl) ?_ _
          refine NoPanic.normal ?_
          go_wp2_with fail
          go_meet
          exact ⟨b6, b7, rfl, rfl, by omega, by omega, by omega, kB, kd2, kd3, kd4, kr6, kr7⟩
        refine AllReadyH.cons (by simp only [List.getElem?_toArray, List.getElem?_cons_succ, List.getElem?_cons_zero]; rfl) (fun K hK => ?_) AllReadyH.nil
        go_simp
        rw [zeros_sA]
        have hge_b7 := kB.size
        have hne_b7_d2 := kd2.lt
        replace kd2 := kd2.alloc (.cells (sA (fun _ => 0)) 43)
        have hne_b7_d3 := kd3.lt
        replace kd3 := kd3.alloc (.cells (sA (fun _ => 0)) 43)
        have hne_b7_d4 := kd4.lt
        replace kd4 := kd4.alloc (.cells (sA (fun _ => 0)) 43)
        replace kB := kb_alloc kB (Nat.le_refl _) (.cells (sA (fun _ => 0)) 43)
        have kr7 := SAt.new wq1 (fun _ => 0)
        obtain ⟨b7, hcur⟩ : ∃ uu, uu = wq1.heap.size := ⟨_, rfl⟩
        rw [← hcur] at hge_b7 hne_b7_d2 hne_b7_d3 hne_b7_d4 kr7 ⊢
        clear hcur
        obtain ⟨q20, hcur⟩ : ∃ uu, uu = wq1.alloc (.cells (sA (fun _ => 0)) 43) := ⟨_, rfl⟩
        rw [← hcur] at kB kd2 kd3 kd4 kr7 ⊢
        clear hcur
        refine hK.out _ _ ?_ (fun hHeld => ?_)
        · exact ⟨kB, kd2, kd3⟩
        clear hK K
        try simp only [Act.put, List.setIfInBounds_toArray, List.set_cons_zero, List.set_cons_succ]
        refine wpAnyH_ready (rs := [3, 4]) (by kernel_rfl) (by simp) ?_
        refine AllReadyH.cons (by simp only [List.getElem?_toArray, List.getElem?_cons_succ, List.getElem?_cons_zero]; rfl) (fun K hK => ?_) ?_
        · try go_simp
          refine (hl2.out _).mono ?_; rintro e wq21 ⟨rfl, q21⟩
          replace kB := kB.trans (q21.mono kB.size)
          replace kd2 := kd2.below q21
          replace kd3 := kd3.below q21
          replace kd4 := kd4.below q21
          replace kr7 := kr7.keep q21
          clear q21
          try go_wp2_with fail
          refine hK.out _ _ ?_ (fun hHeld => ?_)
          · exact ⟨kB, kd2, kd3⟩
          clear hK K
          try simp only [Act.put, List.setIfInBounds_toArray, List.set_cons_zero, List.set_cons_succ]
          refine wpAnyH_ready (rs := [4]) (by kernel_rfl) (by simp) ?_
          refine AllReadyH.cons (by simp only [List.getElem?_toArray, List.getElem?_cons_succ, List.getElem?_cons_zero]; rfl) (fun K hK => ?_) AllReadyH.nil
          go_simp
          rw [zeros_sA]
          have hge_b6 := kB.size
          have hne_b6_d2 := kd2.lt
          replace kd2 := kd2.alloc (.cells (sA (fun _ => 0)) 43)
          have hne_b6_d3 := kd3.lt
          replace kd3 := kd3.alloc (.cells (sA (fun _ => 0)) 43)
          have hne_b6_d4 := kd4.lt
          replace kd4 := kd4.alloc (.cells (sA (fun _ => 0)) 43)
          have hne_b6_r7 := kr7.lt
          replace kr7 := kr7.alloc (.cells (sA (fun _ => 0)) 43)
          replace kB := kb_alloc kB (Nat.le_refl _) (.cells (sA (fun _ => 0)) 43)
          have kr6 := SAt.new wq21 (fun _ => 0)
          obtain ⟨b6, hcur⟩ : ∃ uu, uu = wq21.heap.size := ⟨_, rfl⟩
          rw [← hcur] at hge_b6 hne_b6_d2 hne_b6_d3 hne_b6_d4 hne_b6_r7 kr6 ⊢
          clear hcur
          obtain ⟨q22, hcur⟩ : ∃ uu, uu = wq21.alloc (.cells (sA (fun _ => 0)) 43) := ⟨_, rfl⟩
          rw [← hcur] at kB kd2 kd3 kd4 kr7 kr6 ⊢
          clear hcur
          refine hK.out _ _ ?_ (fun hHeld => ?_)
          · exact ⟨kB, kd2, kd3⟩
          clear hK K
          try simp only [Act.put, List.setIfInBounds_toArray, List.set_cons_zero, List.set_cons_succ]
          have kr0 := kr6
          replace kB := below_setRow (g := b6) kB (by omega) (sA (dgt x))
          replace kd2 := kd2.row (g := b6) (sA (dgt x)) (by omega)
          replace kd3 := kd3.row (g := b6) (sA (dgt x)) (by omega)
          replace kd4 := kd4.row (g := b6) (sA (dgt x)) (by omega)
          replace kr7 := kr7.otherRow (g := b6) (sA (dgt x)) (by omega)
          replace kr6 := kr6.row (dgt x)
          refine wpAnyH_ready (rs := [6]) (by kernel_rfl) (by simp) ?_
          refine ready_store_sA (by simp only [List.getElem?_toArray, List.getElem?_cons_succ, List.getElem?_cons_zero]; rfl) (by rfl) (.tmp 6) (.tmp 13) (by rfl) (b6) _ (dgt x) (by rfl) (by rfl) kr0 ?_ (fun hHeld => ?_)
          · exact ⟨kB, kd2, kd3⟩
          clear kr0
          try simp only [Act.put, List.setIfInBounds_toArray, List.set_cons_zero, List.set_cons_succ]
          obtain ⟨q23, hcur⟩ : ∃ uu, uu = q22.setRow (b6) (sA (dgt x)) := ⟨_, rfl⟩
          rw [← hcur] at hHeld kB kd2 kd3 kd4 kr7 kr6 ⊢
          clear hcur
          have kr0 := kr7
          replace kB := below_setRow (g := b7) kB (by omega) (sA (dgt y))
          replace kd2 := kd2.row (g := b7) (sA (dgt y)) (by omega)
          replace kd3 := kd3.row (g := b7) (sA (dgt y)) (by omega)
          replace kd4 := kd4.row (g := b7) (sA (dgt y)) (by omega)
          replace kr7 := kr7.row (dgt y)
          replace kr6 := kr6.otherRow (g := b7) (sA (dgt y)) (by omega)
          refine wpAnyH_ready (rs := [7]) (by kernel_rfl) (by simp) ?_
          refine ready_store_sA (by simp only [List.getElem?_toArray, List.getElem?_cons_succ, List.getElem?_cons_zero]; rfl) (by rfl) (.tmp 7) (.tmp 15) (by rfl) (b7) _ (dgt y) (by rfl) (by rfl) kr0 ?_ (fun hHeld => ?_)
          · exact ⟨kB, kd2, kd3⟩
          clear kr0
          try simp only [Act.put, List.setIfInBounds_toArray, List.set_cons_zero, List.set_cons_succ]
          obtain ⟨q24, hcur⟩ : ∃ uu, uu = q23.setRow (b7) (sA (dgt y)) := ⟨_, rfl⟩
          rw [← hcur] at hHeld kB kd2 kd3 kd4 kr7 kr6 ⊢
          clear hcur
          refine wpAnyH_done (by kernel_rfl) ?_ _
          refine NoPanic.normal ?_
          go_wp2_with fail
          go_meet
          exact ⟨b6, b7, rfl, rfl, by omega, by omega, by omega, kB, kd2, kd3, kd4, kr6, kr7⟩
        refine AllReadyH.cons (by simp only [List.getElem?_toArray, List.getElem?_cons_succ, List.getElem?_cons_zero]; rfl) (fun K hK => ?_) AllReadyH.nil
        go_simp
        rw [zeros_sA]
        have hge_b6 := kB.size
        have hne_b6_d2 := kd2.lt
        replace kd2 := kd2.alloc (.cells (sA (fun _ => 0)) 43)
        have hne_b6_d3 := kd3.lt
        replace kd3 := kd3.alloc (.cells (sA (fun _ => 0)) 43)
        have hne_b6_d4 := kd4.lt
        replace kd4 := kd4.alloc (.cells (sA (fun _ => 0)) 43)
        have hne_b6_r7 := kr7.lt
        replace kr7 := kr7.alloc (.cells (sA (fun _ => 0)) 43)
        replace kB := kb_alloc kB (Nat.le_refl _) (.cells (sA (fun _ => 0)) 43)
        have kr6 := SAt.new q20 (fun _ => 0)
        obtain ⟨b6, hcur⟩ : ∃ uu, uu = q20.heap.size := ⟨_, rfl⟩
        rw [← hcur] at hge_b6 hne_b6_d2 hne_b6_d3 hne_b6_d4 hne_b6_r7 kr6 ⊢
        clear hcur
        obtain ⟨q25, hcur⟩ : ∃ uu, uu = q20.alloc (.cells (sA (fun _ => 0)) 43) := ⟨_, rfl⟩
        rw [← hcur] at kB kd2 kd3 kd4 kr7 kr6 ⊢
        clear hcur
        refine hK.out _ _ ?_ (fun hHeld => ?_)
        · exact ⟨kB, kd2, kd3⟩
        clear hK K
        try simp only [Act.put, List.setIfInBounds_toArray, List.set_cons_zero, List.set_cons_succ]
        refine wpAnyH_ready (rs := [3]) (by kernel_rfl) (by simp) ?_
        refine AllReadyH.cons (by simp only [List.getElem?_toArray, List.getElem?_cons_succ, List.getElem?_cons_zero]; rfl) (fun K hK => ?_) AllReadyH.nil
        try go_simp
        refine (hl2.out _).mono ?_; rintro e wq26 ⟨rfl, q26⟩
        replace kB := kB.trans (q26.mono kB.size)
        replace kd2 := kd2.below q26
        replace kd3 := kd3.below q26
        replace kd4 := kd4.below q26
        replace kr7 := kr7.keep q26
        replace kr6 := kr6.keep q26
        clear q26
        try go_wp2_with fail
        refine hK.out _ _ ?_ (fun hHeld => ?_)
        · exact ⟨kB, kd2, kd3⟩
        clear hK K
        try simp only [Act.put, List.setIfInBounds_toArray, List.set_cons_zero, List.set_cons_succ]
        have kr0 := kr6
        replace kB := below_setRow (g := b6) kB (by omega) (sA (dgt x))
        replace kd2 := kd2.row (g := b6) (sA (dgt x)) (by omega)
        replace kd3 := kd3.row (g := b6) (sA (dgt x)) (by omega)
        replace kd4 := kd4.row (g := b6) (sA (dgt x)) (by omega)
        replace kr7 := kr7.otherRow (g := b6) (sA (dgt x)) (by omega)
        replace kr6 := kr6.row (dgt x)
        refine wpAnyH_ready (rs := [6]) (by kernel_rfl) (by simp) ?_
        refine ready_store_sA (by simp only [List.getElem?_toArray, List.getElem?_cons_succ, List.getElem?_cons_zero]; rfl) (by rfl) (.tmp 6) (.tmp 13) (by rfl) (b6) _ (dgt x) (by rfl) (by rfl) kr0 ?_ (fun hHeld => ?_)
        · exact ⟨kB, kd2, kd3⟩
        clear kr0
        try simp only [Act.put, List.setIfInBounds_toArray, List.set_cons_zero, List.set_cons_succ]
        obtain ⟨q27, hcur⟩ : ∃ uu, uu = wq26.setRow (b6) (sA (dgt x)) := ⟨_, rfl⟩
        rw [← hcur] at hHeld kB kd2 kd3 kd4 kr7 kr6 ⊢
        clear hcur
        have kr0 := kr7
        replace kB := below_setRow (g := b7) kB (by omega) (sA (dgt y))
        replace kd2 := kd2.row (g := b7) (sA (dgt y)) (by omega)
        replace kd3 := kd3.row (g := b7) (sA (dgt y)) (by omega)
        replace kd4 := kd4.row (g := b7) (sA (dgt y)) (by omega)
        replace kr7 := kr7.row (dgt y)
        replace kr6 := kr6.otherRow (g := b7) (sA (dgt y)) (by omega)
        refine wpAnyH_ready (rs := [7]) (by kernel_rfl) (by simp) ?_
        refine ready_store_sA (by simp only [List.getElem?_toArray, List.getElem?_cons_succ, List.getElem?_cons_zero]; rfl) (by rfl) (.tmp 7) (.tmp 15) (by rfl) (b7) _ (dgt y) (by rfl) (by rfl) kr0 ?_ (fun hHeld => ?_)
        · exact ⟨kB, kd2, kd3⟩
        clear kr0
        try simp only [Act.put, List.setIfInBounds_toArray, List.set_cons_zero, List.set_cons_succ]
        obtain ⟨q28, hcur⟩ : ∃ uu, uu = q27.setRow (b7) (sA (dgt y)) := ⟨_, rfl⟩
        rw [← hcur] at hHeld kB kd2 kd3 kd4 kr7 kr6 ⊢
        clear hcur
        refine wpAnyH_done (by kernel_rfl) ?_ _
        refine NoPanic.normal ?_
        go_wp2_with fail
        go_meet
        exact ⟨b6, b7, rfl, rfl, by omega, by omega, by omega, kB, kd2, kd3, kd4, kr6, kr7⟩
      refine AllReadyH.cons (by simp only [List.getElem?_toArray, List.getElem?_cons_succ, List.getElem?_cons_zero]; rfl) (fun K hK => ?_) ?_
      · go_simp
        rw [zeros_sA]
        have hge_b6 := kB.size
        have hne_b6_d2 := kd2.lt
        replace kd2 := kd2.alloc (.cells (sA (fun _ => 0)) 43)
        have hne_b6_d3 := kd3.lt
        replace kd3 := kd3.alloc (.cells (sA (fun _ => 0)) 43)
        have hne_b6_d4 := kd4.lt
        replace kd4 := kd4.alloc (.cells (sA (fun _ => 0)) 43)
        replace kB := kb_alloc kB (Nat.le_refl _) (.cells (sA (fun _ => 0)) 43)
        have kr6 := SAt.new qw (fun _ => 0)
        obtain ⟨b6, hcur⟩ : ∃ uu, uu = qw.heap.size := ⟨_, rfl⟩
        rw [← hcur] at hge_b6 hne_b6_d2 hne_b6_d3 hne_b6_d4 kr6 ⊢
        clear hcur
        obtain ⟨q29, hcur⟩ : ∃ uu, uu = qw.alloc (.cells (sA (fun _ => 0)) 43) := ⟨_, rfl⟩
        rw [← hcur] at kB kd2 kd3 kd4 kr6 ⊢
        clear hcur
        refine hK.out _ _ ?_ (fun hHeld => ?_)
        · exact ⟨kB, kd2, kd3⟩
        clear hK K
        try simp only [Act.put, List.setIfInBounds_toArray, List.set_cons_zero, List.set_cons_succ]
        refine wpAnyH_ready (rs := [1, 5]) (by kernel_rfl) (by simp) ?_
        refine AllReadyH.cons (by simp only [List.getElem?_toArray, List.getElem?_cons_succ, List.getElem?_cons_zero]; rfl) (fun K hK => ?_) ?_
        · try go_simp
          refine (hl1.out _).mono ?_; rintro e wq30 ⟨rfl, q30⟩
          replace kB := kB.trans (q30.mono kB.size)
          replace kd2 := kd2.below q30
          replace kd3 := kd3.below q30
          replace kd4 := kd4.below q30
          replace kr6 := kr6.keep q30
          clear q30
          try go_wp2_with fail
          refine hK.out _ _ ?_ (fun hHeld => ?_)
          · exact ⟨kB, kd2, kd3⟩
          clear hK K
          try simp only [Act.put, List.setIfInBounds_toArray, List.set_cons_zero, List.set_cons_succ]
          refine wpAnyH_ready (rs := [3, 5]) (by kernel_rfl) (by simp) ?_
          refine AllReadyH.cons (by simp only [List.getElem?_toArray, List.getElem?_cons_succ, List.getElem?_cons_zero]; rfl) (fun K hK => ?_) ?_
          · try go_simp
            refine (hl2.out _).mono ?_; rintro e wq31 ⟨rfl, q31⟩
            replace kB := kB.trans (q31.mono kB.size)
            replace kd2 := kd2.below q31
            replace kd3 := kd3.below q31
            replace kd4 := kd4.below q31
            replace kr6 := kr6.keep q31
            clear q31
            try go_wp2_with fail
            refine hK.out _ _ ?_ (fun hHeld => ?_)
            · exact ⟨kB, kd2, kd3⟩
            clear hK K
            try simp only [Act.put, List.setIfInBounds_toArray, List.set_cons_zero, List.set_cons_succ]
            refine wpAnyH_ready (rs := [5]) (by kernel_rfl) (by simp) ?_
            refine AllReadyH.cons (by simp only [List.getElem?_toArray, List.getElem?_cons_succ, List.getElem?_cons_zero]; rfl) (fun K hK => ?_) AllReadyH.nil
            go_simp
            rw [zeros_sA]
            have hge_b7 := kB.size
            have hne_b7_d2 := kd2.lt
            replace kd2 := kd2.alloc (.cells (sA (fun _ => 0)) 43)
            have hne_b7_d3 := kd3.lt
            replace kd3 := kd3.alloc (.cells (sA (fun _ => 0)) 43)
            have hne_b7_d4 := kd4.lt
            replace kd4 := kd4.alloc (.cells (sA (fun _ => 0)) 43)
            have hne_b7_r6 := kr6.lt
            replace kr6 := kr6.alloc (.cells (sA (fun _ => 0)) 43)
            replace kB := kb_alloc kB (Nat.le_refl _) (.cells (sA (fun _ => 0)) 43)
            have kr7 := SAt.new wq31 (fun _ => 0)
            obtain ⟨b7, hcur⟩ : ∃ uu, uu = wq31.heap.size := ⟨_, rfl⟩
            rw [← hcur] at hge_b7 hne_b7_d2 hne_b7_d3 hne_b7_d4 hne_b7_r6 kr7 ⊢
            clear hcur
            obtain ⟨q32, hcur⟩ : ∃ uu, uu = wq31.alloc (.cells (sA (fun _ => 0)) 43) := ⟨_, rfl⟩
            rw [← hcur] at kB kd2 kd3 kd4 kr6 kr7 ⊢
            clear hcur
            refine hK.out _ _ ?_ (fun hHeld => ?_)
            · exact ⟨kB, kd2, kd3⟩
            clear hK K
            try simp only [Act.put, List.setIfInBounds_toArray, List.set_cons_zero, List.set_cons_succ]
            have kr0 := kr6
            replace kB := below_setRow (g := b6) kB (by omega) (sA (dgt x))
            replace kd2 := kd2.row (g := b6) (sA (dgt x)) (by omega)
            replace kd3 := kd3.row (g := b6) (sA (dgt x)) (by omega)
            replace kd4 := kd4.row (g := b6) (sA (dgt x)) (by omega)
            replace kr6 := kr6.row (dgt x)
            replace kr7 := kr7.otherRow (g := b6) (sA (dgt x)) (by omega)
            refine wpAnyH_ready (rs := [6]) (by kernel_rfl) (by simp) ?_
            refine ready_store_sA (by simp only [List.getElem?_toArray, List.getElem?_cons_succ, List.getElem?_cons_zero]; rfl) (by rfl) (.tmp 6) (.tmp 13) (by rfl) (b6) _ (dgt x) (by rfl) (by rfl) kr0 ?_ (fun hHeld => ?_)
            · exact ⟨kB, kd2, kd3⟩
            clear kr0
            try simp only [Act.put, List.setIfInBounds_toArray, List.set_cons_zero, List.set_cons_succ]
            obtain ⟨q33, hcur⟩ : ∃ uu, uu = q32.setRow (b6) (sA (dgt x)) := ⟨_, rfl⟩
            rw [← hcur] at hHeld kB kd2 kd3 kd4 kr6 kr7 ⊢
            clear hcur
            have kr0 := kr7
            replace kB := below_setRow (g := b7) kB (by omega) (sA (dgt y))
            replace kd2 := kd2.row (g := b7) (sA (dgt y)) (by omega)
            replace kd3 := kd3.row (g := b7) (sA (dgt y)) (by omega)
            replace kd4 := kd4.row (g := b7) (sA (dgt y)) (by omega)
            replace kr6 := kr6.otherRow (g := b7) (sA (dgt y)) (by omega)
            replace kr7 := kr7.row (dgt y)
            refine wpAnyH_ready (rs := [7]) (by kernel_rfl) (by simp) ?_
            refine ready_store_sA (by simp only [List.getElem?_toArray, List.getElem?_cons_succ, List.getElem?_cons_zero]; rfl) (by rfl) (.tmp 7) (.tmp 15) (by rfl) (b7) _ (dgt y) (by rfl) (by rfl) kr0 ?_ (fun hHeld => ?_)
            · exact ⟨kB, kd2, kd3⟩
            clear kr0
            try simp only [Act.put, List.setIfInBounds_toArray, List.set_cons_zero, List.set_cons_succ]
            obtain ⟨q34, hcur⟩ : ∃ uu, uu = q33.setRow (b7) (sA (dgt y)) := ⟨_, rfl⟩
            rw [← hcur] at hHeld kB kd2 kd3 kd4 kr6 kr7 ⊢
            clear hcur
            refine wpAnyH_done (by kernel_rfl) ?_ _
            refine NoPanic.normal ?_
            go_wp2_with fail
            go_meet
            exact ⟨b6, b7, rfl, rfl, by omega, by omega, by omega, kB, kd2, kd3, kd4, kr6, kr7⟩
          refine AllReadyH.cons (by simp only [List.getElem?_toArray, List.getElem?_cons_succ, List.getElem?_cons_zero]; rfl) (fun K hK => ?_) AllReadyH.nil
          go_simp
          rw [zeros_sA]
          have hge_b7 := kB.size
          have hne_b7_d2 := kd2.lt
          replace kd2 := kd2.alloc (.cells (sA (fun _ => 0)) 43)
          have hne_b7_d3 := kd3.lt
          replace kd3 := kd3.alloc (.cells (sA (fun _ => 0)) 43)
          have hne_b7_d4 := kd4.lt
          replace kd4 := kd4.alloc (.cells (sA (fun _ => 0)) 43)
          have hne_b7_r6 := kr6.lt
          replace kr6 := kr6.alloc (.cells (sA (fun _ => 0)) 43)
          replace kB := kb_alloc kB (Nat.le_refl _) (.cells (sA (fun _ => 0)) 43)
          have kr7 := SAt.new wq30 (fun _ => 0)
          obtain ⟨b7, hcur⟩ : ∃ uu, uu = wq30.heap.size := ⟨_, rfl⟩
          rw [← hcur] at hge_b7 hne_b7_d2 hne_b7_d3 hne_b7_d4 hne_b7_r6 kr7 ⊢
          clear hcur
          obtain ⟨q35, hcur⟩ : ∃ uu, uu = wq30.alloc (.cells (sA (fun _ => 0)) 43) := ⟨_, rfl⟩
          rw [← hcur] at kB kd2 kd3 kd4 kr6 kr7 ⊢
          clear hcur
          refine hK.out _ _ ?_ (fun hHeld => ?_)
          · exact ⟨kB, kd2, kd3⟩
          clear hK K
          try simp only [Act.put, List.setIfInBounds_toArray, List.set_cons_zero, List.set_cons_succ]
          refine wpAnyH_ready (rs := [3]) (by kernel_rfl) (by simp) ?_
          refine AllReadyH.cons (by simp only [List.getElem?_toArray, List.getElem?_cons_succ, List.getElem?_cons_zero]; rfl) (fun K hK => ?_) AllReadyH.nil
          try go_simp
          refine (hl2.out _).mono ?_; rintro e wq36 ⟨rfl, q36⟩
          replace kB := kB.trans (q36.mono kB.size)
          replace kd2 := kd2.below q36
          replace kd3 := kd3.below q36
          replace kd4 := kd4.below q36
          replace kr6 := kr6.keep q36
          replace kr7 := kr7.keep q36
          clear q36
          try go_wp2_with fail
          refine hK.out _ _ ?_ (fun hHeld => ?_)
          · exact ⟨kB, kd2, kd3⟩
          clear hK K
          try simp only [Act.put, List.setIfInBounds_toArray, List.set_cons_zero, List.set_cons_succ]
          have kr0 := kr6
          replace kB := below_setRow (g := b6) kB (by omega) (sA (dgt x))
          replace kd2 := kd2.row (g := b6) (sA (dgt x)) (by omega)
          replace kd3 := kd3.row (g := b6) (sA (dgt x)) (by omega)
          replace kd4 := kd4.row (g := b6) (sA (dgt x)) (by omega)
          replace kr6 := kr6.row (dgt x)
          replace kr7 := kr7.otherRow (g := b6) (sA (dgt x)) (by omega)
          refine wpAnyH_ready (rs := [6]) (by kernel_rfl) (by simp) ?_
          refine ready_store_sA (by simp only [List.getElem?_toArray, List.getElem?_cons_succ, List.getElem?_cons_zero]; rfl) (by rfl) (.tmp 6) (.tmp 13) (by rfl) (b6) _ (dgt x) (by rfl) (by rfl) kr0 ?_ (fun hHeld => ?_)
          · exact ⟨kB, kd2, kd3⟩
          clear kr0
          try simp only [Act.put, List.setIfInBounds_toArray, List.set_cons_zero, List.set_cons_succ]
          obtain ⟨q37, hcur⟩ : ∃ uu, uu = wq36.setRow (b6) (sA (dgt x)) := ⟨_, rfl⟩
          rw [← hcur] at hHeld kB kd2 kd3 kd4 kr6 kr7 ⊢
          clear hcur
          have kr0 := kr7
          replace kB := below_setRow (g := b7) kB (by omega) (sA (dgt y))
          replace kd2 := kd2.row (g := b7) (sA (dgt y)) (by omega)
          replace kd3 := kd3.row (g := b7) (sA (dgt y)) (by omega)
          replace kd4 := kd4.row (g := b7) (sA (dgt y)) (by omega)
          replace kr6 := kr6.otherRow (g := b7) (sA (dgt y)) (by omega)
          replace kr7 := kr7.row (dgt y)
          refine wpAnyH_ready (rs := [7]) (by kernel_rfl) (by simp) ?_
          refine ready_store_sA (by simp only [List.getElem?_toArray, List.getElem?_cons_succ, List.getElem?_cons_zero]; rfl) (by rfl) (.tmp 7) (.tmp 15) (by rfl) (b7) _ (dgt y) (by rfl) (by rfl) kr0 ?_ (fun hHeld => ?_)
          · exact ⟨kB, kd2, kd3⟩
          clear kr0
          try simp only [Act.put, List.setIfInBounds_toArray, List.set_cons_zero, List.set_cons_succ]
          obtain ⟨q38, hcur⟩ : ∃ uu, uu = q37.setRow (b7) (sA (dgt y)) := ⟨_, rfl⟩
          rw [← hcur] at hHeld kB kd2 kd3 kd4 kr6 kr7 ⊢
          clear hcur
          refine wpAnyH_done (by kernel_rfl) ?_ _
          refine NoPanic.normal ?_
          go_wp2_with fail
          go_meet
          exact ⟨b6, b7, rfl, rfl, by omega, by omega, by omega, kB, kd2, kd3, kd4, kr6, kr7⟩
        refine AllReadyH.cons (by simp only [List.getElem?_toArray, List.getElem?_cons_succ, List.getElem?_cons_zero]; rfl) (fun K hK => ?_) AllReadyH.nil
        go_simp
        rw [zeros_sA]
        have hge_b7 := kB.size
        have hne_b7_d2 := kd2.lt
        replace kd2 := kd2.alloc (.cells (sA (fun _ => 0)) 43)
        have hne_b7_d3 := kd3.lt
        replace kd3 := kd3.alloc (.cells (sA (fun _ => 0)) 43)
        have hne_b7_d4 := kd4.lt
        replace kd4 := kd4.alloc (.cells (sA (fun _ => 0)) 43)
        have hne_b7_r6 := kr6.lt
        replace kr6 := kr6.alloc (.cells (sA (fun _ => 0)) 43)
        replace kB := kb_alloc kB (Nat.le_refl _) (.cells (sA (fun _ => 0)) 43)
        have kr7 := SAt.new q29 (fun _ => 0)
        obtain ⟨b7, hcur⟩ : ∃ uu, uu = q29.heap.size := ⟨_, rfl⟩
        rw [← hcur] at hge_b7 hne_b7_d2 hne_b7_d3 hne_b7_d4 hne_b7_r6 kr7 ⊢
        clear hcur
        obtain ⟨q39, hcur⟩ : ∃ uu, uu = q29.alloc (.cells (sA (fun _ => 0)) 43) := ⟨_, rfl⟩
        rw [← hcur] at kB kd2 kd3 kd4 kr6 kr7 ⊢
        clear hcur
        refine hK.out _ _ ?_ (fun hHeld => ?_)
        · exact ⟨kB, kd2, kd3⟩
        clear hK K
        try simp only [Act.put, List.setIfInBounds_toArray, List.set_cons_zero, List.set_cons_succ]
        refine wpAnyH_ready (rs := [1]) (by kernel_rfl) (by simp) ?_
        refine AllReadyH.cons (by simp only [List.getElem?_toArray, List.getElem?_cons_succ, List.getElem?_cons_zero]; rfl) (fun K hK => ?_) AllReadyH.nil
        try go_simp
        refine (hl1.out _).mono ?_; rintro e wq40 ⟨rfl, q40⟩
        replace kB := kB.trans (q40.mono kB.size)
        replace kd2 := kd2.below q40
        replace kd3 := kd3.below q40
        replace kd4 := kd4.below q40
        replace kr6 := kr6.keep q40
        replace kr7 := kr7.keep q40
        clear q40
        try go_wp2_with fail
        refine hK.out _ _ ?_ (fun hHeld => ?_)
        · exact ⟨kB, kd2, kd3⟩
        clear hK K
        try simp only [Act.put, List.setIfInBounds_toArray, List.set_cons_zero, List.set_cons_succ]
        refine wpAnyH_ready (rs := [3]) (by kernel_rfl) (by simp) ?_
        refine AllReadyH.cons (by simp only [List.getElem?_toArray, List.getElem?_cons_succ, List.getElem?_cons_zero]; rfl) (fun K hK => ?_) AllReadyH.nil
        try go_simp
        refine (hl2.out _).mono ?_; rintro e wq41 ⟨rfl, q41⟩
        replace kB := kB.trans (q41.mono kB.size)
        replace kd2 := kd2.below q41
        replace kd3 := kd3.below q41
        replace kd4 := kd4.below q41
        replace kr6 := kr6.keep q41
        replace kr7 := kr7.keep q41
        clear q41
        try go_wp2_with fail
        refine hK.out _ _ ?_ (fun hHeld => ?_)
        · exact ⟨kB, kd2, kd3⟩
        clear hK K
        try simp only [Act.put, List.setIfInBounds_toArray, List.set_cons_zero, List.set_cons_succ]
        have kr0 := kr6
        replace kB := below_setRow (g := b6) kB (by omega) (sA (dgt x))
        replace kd2 := kd2.row (g := b6) (sA (dgt x)) (by omega)
        replace kd3 := kd3.row (g := b6) (sA (dgt x)) (by omega)
        replace kd4 := kd4.row (g := b6) (sA (dgt x)) (by omega)
        replace kr6 := kr6.row (dgt x)
        replace kr7 := kr7.otherRow (g := b6) (sA (dgt x)) (by omega)
        refine wpAnyH_ready (rs := [6]) (by kernel_rfl) (by simp) ?_
        refine ready_store_sA (by simp only [List.getElem?_toArray, List.getElem?_cons_succ, List.getElem?_cons_zero]; rfl) (by rfl) (.tmp 6) (.tmp 13) (by rfl) (b6) _ (dgt x) (by rfl) (by rfl) kr0 ?_ (fun hHeld => ?_)
        · exact ⟨kB, kd2, kd3⟩
        clear kr0
        try simp only [Act.put, List.setIfInBounds_toArray, List.set_cons_zero, List.set_cons_succ]
        obtain ⟨q42, hcur⟩ : ∃ uu, uu = wq41.setRow (b6) (sA (dgt x)) := ⟨_, rfl⟩
        rw [← hcur] at hHeld kB kd2 kd3 kd4 kr6 kr7 ⊢
        clear hcur
        have kr0 := kr7
        replace kB := below_setRow (g := b7) kB (by omega) (sA (dgt y))
        replace kd2 := kd2.row (g := b7) (sA (dgt y)) (by omega)
        replace kd3 := kd3.row (g := b7) (sA (dgt y)) (by omega)
        replace kd4 := kd4.row (g := b7) (sA (dgt y)) (by omega)
        replace kr6 := kr6.otherRow (g := b7) (sA (dgt y)) (by omega)
        replace kr7 := kr7.row (dgt y)
        refine wpAnyH_ready (rs := [7]) (by kernel_rfl) (by simp) ?_
        refine ready_store_sA (by simp only [List.getElem?_toArray, List.getElem?_cons_succ, List.getElem?_cons_zero]; rfl) (by rfl) (.tmp 7) (.tmp 15) (by rfl) (b7) _ (dgt y) (by rfl) (by rfl) kr0 ?_ (fun hHeld => ?_)
        · exact ⟨kB, kd2, kd3⟩
        clear kr0
        try simp only [Act.put, List.setIfInBounds_toArray, List.set_cons_zero, List.set_cons_succ]
        obtain ⟨q43, hcur⟩ : ∃ uu, uu = q42.setRow (b7) (sA (dgt y)) := ⟨_, rfl⟩
        rw [← hcur] at hHeld kB kd2 kd3 kd4 kr6 kr7 ⊢
        clear hcur
        refine wpAnyH_done (by kernel_rfl) ?_ _
        refine NoPanic.normal ?_
        go_wp2_with fail
        go_meet
        exact ⟨b6, b7, rfl, rfl, by omega, by omega, by omega, kB, kd2, kd3, kd4, kr6, kr7⟩
      refine AllReadyH.cons (by simp only [List.getElem?_toArray, List.getElem?_cons_succ, List.getElem?_cons_zero]; rfl) (fun K hK => ?_) AllReadyH.nil
      go_simp
      rw [zeros_sA]
      have hge_b7 := kB.size
      have hne_b7_d2 := kd2.lt
      replace kd2 := kd2.alloc (.cells (sA (fun _ => 0)) 43)
      have hne_b7_d3 := kd3.lt
      replace kd3 := kd3.alloc (.cells (sA (fun _ => 0)) 43)
      have hne_b7_d4 := kd4.lt
      replace kd4 := kd4.alloc (.cells (sA (fun _ => 0)) 43)
      replace kB := kb_alloc kB (Nat.le_refl _) (.cells (sA (fun _ => 0)) 43)
      have kr7 := SAt.new qw (fun _ => 0)
      obtain ⟨b7, hcur⟩ : ∃ uu, uu = qw.heap.size := ⟨_, rfl⟩
      rw [← hcur] at hge_b7 hne_b7_d2 hne_b7_d3 hne_b7_d4 kr7 ⊢
      clear hcur
      obtain ⟨q44, hcur⟩ : ∃ uu, uu = qw.alloc (.cells (sA (fun _ => 0)) 43) := ⟨_, rfl⟩
      rw [← hcur] at kB kd2 kd3 kd4 kr7 ⊢
      clear hcur
      refine hK.out _ _ ?_ (fun hHeld => ?_)
      · exact ⟨kB, kd2, kd3⟩
      clear hK K
      try simp only [Act.put, List.setIfInBounds_toArray, List.set_cons_zero, List.set_cons_succ]
      refine wpAnyH_ready (rs := [1, 4]) (by kernel_rfl) (by simp) ?_
      refine AllReadyH.cons (by simp only [List.getElem?_toArray, List.getElem?_cons_succ, List.getElem?_cons_zero]; rfl) (fun K hK => ?_) ?_
      · try go_simp
        refine (hl1.out _).mono ?_; rintro e wq45 ⟨rfl, q45⟩
        replace kB := kB.trans (q45.mono kB.size)
        replace kd2 := kd2.below q45
        replace kd3 := kd3.below q45
        replace kd4 := kd4.below q45
        replace kr7 := kr7.keep q45
        clear q45
        try go_wp2_with fail
        refine hK.out _ _ ?_ (fun hHeld => ?_)
        · exact ⟨kB, kd2, kd3⟩
        clear hK K
        try simp only [Act.put, List.setIfInBounds_toArray, List.set_cons_zero, List.set_cons_succ]
        refine wpAnyH_ready (rs := [3, 4]) (by kernel_rfl) (by simp) ?_
        refine AllReadyH.cons (by simp only [List.getElem?_toArray, List.getElem?_cons_succ, List.getElem?_cons_zero]; rfl) (fun K hK => ?_) ?_
        · try go_simp
          refine (hl2.out _).mono ?_; rintro e wq46 ⟨rfl, q46⟩
          replace kB := kB.trans (q46.mono kB.size)
          replace kd2 := kd2.below q46
          replace kd3 := kd3.below q46
          replace kd4 := kd4.below q46
          replace kr7 := kr7.keep q46
          clear q46
          try go_wp2_with fail
          refine hK.out _ _ ?_ (fun hHeld => ?_)
          · exact ⟨kB, kd2, kd3⟩
          clear hK K
          try simp only [Act.put, List.setIfInBounds_toArray, List.set_cons_zero, List.set_cons_succ]
          refine wpAnyH_ready (rs := [4]) (by kernel_rfl) (by simp) ?_
          refine AllReadyH.cons (by simp only [List.getElem?_toArray, List.getElem?_cons_succ, List.getElem?_cons_zero]; rfl) (fun K hK => ?_) AllReadyH.nil
          go_simp
          rw [zeros_sA]
          have hge_b6 := kB.size
          have hne_b6_d2 := kd2.lt
          replace kd2 := kd2.alloc (.cells (sA (fun _ => 0)) 43)
          have hne_b6_d3 := kd3.lt
          replace kd3 := kd3.alloc (.cells (sA (fun _ => 0)) 43)
          have hne_b6_d4 := kd4.lt
          replace kd4 := kd4.alloc (.cells (sA (fun _ => 0)) 43)
          have hne_b6_r7 := kr7.lt
          replace kr7 := kr7.alloc (.cells (sA (fun _ => 0)) 43)
          replace kB := kb_alloc kB (Nat.le_refl _) (.cells (sA (fun _ => 0)) 43)
          have kr6 := SAt.new wq46 (fun _ => 0)
          obtain ⟨b6, hcur⟩ : ∃ uu, uu = wq46.heap.size := ⟨_, rfl⟩
          rw [← hcur] at hge_b6 hne_b6_d2 hne_b6_d3 hne_b6_d4 hne_b6_r7 kr6 ⊢
          clear hcur
          obtain ⟨q47, hcur⟩ : ∃ uu, uu = wq46.alloc (.cells (sA (fun _ => 0)) 43) := ⟨_, rfl⟩
          rw [← hcur] at kB kd2 kd3 kd4 kr7 kr6 ⊢
          clear hcur
          refine hK.out _ _ ?_ (fun hHeld => ?_)
          · exact ⟨kB, kd2, kd3⟩
          clear hK K
          try simp only [Act.put, List.setIfInBounds_toArray, List.set_cons_zero, List.set_cons_succ]
          have kr0 := kr6
          replace kB := below_setRow (g := b6) kB (by omega) (sA (dgt x))
          replace kd2 := kd2.row (g := b6) (sA (dgt x)) (by omega)
          replace kd3 := kd3.row (g := b6) (sA (dgt x)) (by omega)
          replace kd4 := kd4.row (g := b6) (sA (dgt x)) (by omega)
          replace kr7 := kr7.otherRow (g := b6) (sA (dgt x)) (by omega)
          replace kr6 := kr6.row (dgt x)
          refine wpAnyH_ready (rs := [6]) (by kernel_rfl) (by simp) ?_
          refine ready_store_sA (by simp only [List.getElem?_toArray, List.getElem?_cons_succ, List.getElem?_cons_zero]; rfl) (by rfl) (.tmp 6) (.tmp 13) (by rfl) (b6) _ (dgt x) (by rfl) (by rfl) kr0 ?_ (fun hHeld => ?_)
          · exact ⟨kB, kd2, kd3⟩
          clear kr0
          try simp only [Act.put, List.setIfInBounds_toArray, List.set_cons_zero, List.set_cons_succ]
          obtain ⟨q48, hcur⟩ : ∃ uu, uu = q47.setRow (b6) (sA (dgt x)) := ⟨_, rfl⟩
          rw [← hcur] at hHeld kB kd2 kd3 kd4 kr7 kr6 ⊢
          clear hcur
          have kr0 := kr7
          replace kB := below_setRow (g := b7) kB (by omega) (sA (dgt y))
          replace kd2 := kd2.row (g := b7) (sA (dgt y)) (by omega)
          replace kd3 := kd3.row (g := b7) (sA (dgt y)) (by omega)
          replace kd4 := kd4.row (g := b7) (sA (dgt y)) (by omega)
          replace kr7 := kr7.row (dgt y)
          replace kr6 := kr6.otherRow (g := b7) (sA (dgt y)) (by omega)
          refine wpAnyH_ready (rs := [7]) (by kernel_rfl) (by simp) ?_
          refine ready_store_sA (by simp only [List.getElem?_toArray, List.getElem?_cons_succ, List.getElem?_cons_zero]; rfl) (by rfl) (.tmp 7) (.tmp 15) (by rfl) (b7) _ (dgt y) (by rfl) (by rfl) kr0 ?_ (fun hHeld => ?_)
          · exact ⟨kB, kd2, kd3⟩
          clear kr0
          try simp only [Act.put, List.setIfInBounds_toArray, List.set_cons_zero, List.set_cons_succ]
          obtain ⟨q49, hcur⟩ : ∃ uu, uu = q48.setRow (b7) (sA (dgt y)) := ⟨_, rfl⟩
          rw [← hcur] at hHeld kB kd2 kd3 kd4 kr7 kr6 ⊢
          clear hcur
          refine wpAnyH_done (by kernel_rfl) ?_ _
          refine NoPanic.normal ?_
          go_wp2_with fail
          go_meet
          exact ⟨b6, b7, rfl, rfl, by omega, by omega, by omega, kB, kd2, kd3, kd4, kr6, kr7⟩
        refine AllReadyH.cons (by simp only [List.getElem?_toArray, List.getElem?_cons_succ, List.getElem?_cons_zero]; rfl) (fun K hK => ?_) AllReadyH.nil
        go_simp
        rw [zeros_sA]
        have hge_b6 := kB.size
        have hne_b6_d2 := kd2.lt
        replace kd2 := kd2.alloc (.cells (sA (fun _ => 0)) 43)
        have hne_b6_d3 := kd3.lt
        replace kd3 := kd3.alloc (.cells (sA (fun _ => 0)) 43)
        have hne_b6_d4 := kd4.lt
        replace kd4 := kd4.alloc (.cells (sA (fun _ => 0)) 43)
        have hne_b6_r7 := kr7.lt
        replace kr7 := kr7.alloc (.cells (sA (fun _ => 0)) 43)
        replace kB := kb_alloc kB (Nat.le_refl _) (.cells (sA (fun _ => 0)) 43)
        have kr6 := SAt.new wq45 (fun _ => 0)
        obtain ⟨b6, hcur⟩ : ∃ uu, uu = wq45.heap.size := ⟨_, rfl⟩
        rw [← hcur] at hge_b6 hne_b6_d2 hne_b6_d3 hne_b6_d4 hne_b6_r7 kr6 ⊢
        clear hcur
        obtain ⟨q50, hcur⟩ : ∃ uu, uu = wq45.alloc (.cells (sA (fun _ => 0)) 43) := ⟨_, rfl⟩
        rw [← hcur] at kB kd2 kd3 kd4 kr7 kr6 ⊢
        clear hcur
        refine hK.out _ _ ?_ (fun hHeld => ?_)
        · exact ⟨kB, kd2, kd3⟩
        clear hK K
        try simp only [Act.put, List.setIfInBounds_toArray, List.set_cons_zero, List.set_cons_succ]
        refine wpAnyH_ready (rs := [3]) (by kernel_rfl) (by simp) ?_
        refine AllReadyH.cons (by simp only [List.getElem?_toArray, List.getElem?_cons_succ, List.getElem?_cons_zero]; rfl) (fun K hK => ?_) AllReadyH.nil
        try go_simp
        refine (hl2.out _).mono ?_; rintro e wq51 ⟨rfl, q51⟩
        replace kB := kB.trans (q51.mono kB.size)
        replace kd2 := kd2.below q51
        replace kd3 := kd3.below q51
        replace kd4 := kd4.below q51
        replace kr7 := kr7.keep q51
        replace kr6 := kr6.keep q51
        clear q51
        try go_wp2_with fail
        refine hK.out _ _ ?_ (fun hHeld => ?_)
        · exact ⟨kB, kd2, kd3⟩
        clear hK K
        try simp only [Act.put, List.setIfInBounds_toArray, List.set_cons_zero, List.set_cons_succ]
        have kr0 := kr6
        replace kB := below_setRow (g := b6) kB (by omega) (sA (dgt x))
        replace kd2 := kd2.row (g := b6) (sA (dgt x)) (by omega)
        replace kd3 := kd3.row (g := b6) (sA (dgt x)) (by omega)
        replace kd4 := kd4.row (g := b6) (sA (dgt x)) (by omega)
        replace kr7 := kr7.otherRow (g := b6) (sA (dgt x)) (by omega)
        replace kr6 := kr6.row (dgt x)
        refine wpAnyH_ready (rs := [6]) (by kernel_rfl) (by simp) ?_
        refine ready_store_sA (by simp only [List.getElem?_toArray, List.getElem?_cons_succ, List.getElem?_cons_zero]; rfl) (by rfl) (.tmp 6) (.tmp 13) (by rfl) (b6) _ (dgt x) (by rfl) (by rfl) kr0 ?_ (fun hHeld => ?_)
        · exact ⟨kB, kd2, kd3⟩
        clear kr0
        try simp only [Act.put, List.setIfInBounds_toArray, List.set_cons_zero, List.set_cons_succ]
        obtain ⟨q52, hcur⟩ : ∃ uu, uu = wq51.setRow (b6) (sA (dgt x)) := ⟨_, rfl⟩
        rw [← hcur] at hHeld kB kd2 kd3 kd4 kr7 kr6 ⊢
        clear hcur
        have kr0 := kr7
        replace kB := below_setRow (g := b7) kB (by omega) (sA (dgt y))
        replace kd2 := kd2.row (g := b7) (sA (dgt y)) (by omega)
        replace kd3 := kd3.row (g := b7) (sA (dgt y)) (by omega)
        replace kd4 := kd4.row (g := b7) (sA (dgt y)) (by omega)
        replace kr7 := kr7.row (dgt y)
        replace kr6 := kr6.otherRow (g := b7) (sA (dgt y)) (by omega)
        refine wpAnyH_ready (rs := [7]) (by kernel_rfl) (by simp) ?_
        refine ready_store_sA (by simp only [List.getElem?_toArray, List.getElem?_cons_succ, List.getElem?_cons_zero]; rfl) (by rfl) (.tmp 7) (.tmp 15) (by rfl) (b7) _ (dgt y) (by rfl) (by rfl) kr0 ?_ (fun hHeld => ?_)
        · exact ⟨kB, kd2, kd3⟩
        clear kr0
        try simp only [Act.put, List.setIfInBounds_toArray, List.set_cons_zero, List.set_cons_succ]
        obtain ⟨q53, hcur⟩ : ∃ uu, uu = q52.setRow (b7) (sA (dgt y)) := ⟨_, rfl⟩
        rw [← hcur] at hHeld kB kd2 kd3 kd4 kr7 kr6 ⊢
        clear hcur
        refine wpAnyH_done (by kernel_rfl) ?_ _
        refine NoPanic.normal ?_
        go_wp2_with fail
        go_meet
        exact ⟨b6, b7, rfl, rfl, by omega, by omega, by omega, kB, kd2, kd3, kd4, kr6, kr7⟩
      refine AllReadyH.cons (by simp only [List.getElem?_toArray, List.getElem?_cons_succ, List.getElem?_cons_zero]; rfl) (fun K hK => ?_) AllReadyH.nil
      go_simp
      rw [zeros_sA]
      have hge_b6 := kB.size
      have hne_b6_d2 := kd2.lt
      replace kd2 := kd2.alloc (.cells (sA (fun _ => 0)) 43)
      have hne_b6_d3 := kd3.lt
      replace kd3 := kd3.alloc (.cells (sA (fun _ => 0)) 43)
      have hne_b6_d4 := kd4.lt
      replace kd4 := kd4.alloc (.cells (sA (fun _ => 0)) 43)
      have hne_b6_r7 := kr7.lt
      replace kr7 := kr7.alloc (.cells (sA (fun _ => 0)) 43)
      replace kB := kb_alloc kB (Nat.le_refl _) (.cells (sA (fun _ => 0)) 43)
      have kr6 := SAt.new q44 (fun _ => 0)
      obtain ⟨b6, hcur⟩ : ∃ uu, uu = q44.heap.size := ⟨_, rfl⟩
      rw [← hcur] at hge_b6 hne_b6_d2 hne_b6_d3 hne_b6_d4 hne_b6_r7 kr6 ⊢
      clear hcur
      obtain ⟨q54, hcur⟩ : ∃ uu, uu = q44.alloc (.cells (sA (fun _ => 0)) 43) := ⟨_, rfl⟩
      rw [← hcur] at kB kd2 kd3 kd4 kr7 kr6 ⊢
      clear hcur
      refine hK.out _ _ ?_ (fun hHeld => ?_)
      · exact ⟨kB, kd2, kd3⟩
      clear hK K
      try simp only [Act.put, List.setIfInBounds_toArray, List.set_cons_zero, List.set_cons_succ]
      refine wpAnyH_ready (rs := [1]) (by kernel_rfl) (by simp) ?_
      refine AllReadyH.cons (by simp only [List.getElem?_toArray, List.getElem?_cons_succ, List.getElem?_cons_zero]; rfl) (fun K hK => ?_) AllReadyH.nil
      try go_simp
      refine (hl1.out _).mono ?_; rintro e wq55 ⟨rfl, q55⟩
      replace kB := kB.trans (q55.mono kB.size)
      replace kd2 := kd2.below q55
      replace kd3 := kd3.below q55
      replace kd4 := kd4.below q55
      replace kr7 := kr7.keep q55
      replace kr6 := kr6.keep q55
      clear q55
      try go_wp2_with fail
      refine hK.out _ _ ?_ (fun hHeld => ?_)
      · exact ⟨kB, kd2, kd3⟩
      clear hK K
      try simp only [Act.put, List.setIfInBounds_toArray, List.set_cons_zero, List.set_cons_succ]
      refine wpAnyH_ready (rs := [3]) (by kernel_rfl) (by simp) ?_
      refine AllReadyH.cons (by simp only [List.getElem?_toArray, List.getElem?_cons_succ, List.getElem?_cons_zero]; rfl) (fun K hK => ?_) AllReadyH.nil
      try go_simp
      refine (hl2.out _).mono ?_; rintro e wq56 ⟨rfl, q56⟩
      replace kB := kB.trans (q56.mono kB.size)
      replace kd2 := kd2.below q56
      replace kd3 := kd3.below q56
      replace kd4 := kd4.below q56
      replace kr7 := kr7.keep q56
      replace kr6 := kr6.keep q56
      clear q56
      try go_wp2_with fail
      refine hK.out _ _ ?_ (fun hHeld => ?_)
      · exact ⟨kB, kd2, kd3⟩
      clear hK K
      try simp only [Act.put, List.setIfInBounds_toArray, List.set_cons_zero, List.set_cons_succ]
      have kr0 := kr6
      replace kB := below_setRow (g := b6) kB (by omega) (sA (dgt x))
      replace kd2 := kd2.row (g := b6) (sA (dgt x)) (by omega)
      replace kd3 := kd3.row (g := b6) (sA (dgt x)) (by omega)
      replace kd4 := kd4.row (g := b6) (sA (dgt x)) (by omega)
      replace kr7 := kr7.otherRow (g := b6) (sA (dgt x)) (by omega)
      replace kr6 := kr6.row (dgt x)
      refine wpAnyH_ready (rs := [6]) (by kernel_rfl) (by simp) ?_
      refine ready_store_sA (by simp only [List.getElem?_toArray, List.getElem?_cons_succ, List.getElem?_cons_zero]; rfl) (by rfl) (.tmp 6) (.tmp 13) (by rfl) (b6) _ (dgt x) (by rfl) (by rfl) kr0 ?_ (fun hHeld => ?_)
      · exact ⟨kB, kd2, kd3⟩
      clear kr0
      try simp only [Act.put, List.setIfInBounds_toArray, List.set_cons_zero, List.set_cons_succ]
      obtain ⟨q57, hcur⟩ : ∃ uu, uu = wq56.setRow (b6) (sA (dgt x)) := ⟨_, rfl⟩
      rw [← hcur] at hHeld kB kd2 kd3 kd4 kr7 kr6 ⊢
      clear hcur
      have kr0 := kr7
      replace kB := below_setRow (g := b7) kB (by omega) (sA (dgt y))
      replace kd2 := kd2.row (g := b7) (sA (dgt y)) (by omega)
      replace kd3 := kd3.row (g := b7) (sA (dgt y)) (by omega)
      replace kd4 := kd4.row (g := b7) (sA (dgt y)) (by omega)
      replace kr7 := kr7.row (dgt y)
      replace kr6 := kr6.otherRow (g := b7) (sA (dgt y)) (by omega)
      refine wpAnyH_ready (rs := [7]) (by kernel_rfl) (by simp) ?_
      refine ready_store_sA (by simp only [List.getElem?_toArray, List.getElem?_cons_succ, List.getElem?_cons_zero]; rfl) (by rfl) (.tmp 7) (.tmp 15) (by rfl) (b7) _ (dgt y) (by rfl) (by rfl) kr0 ?_ (fun hHeld => ?_)
      · exact ⟨kB, kd2, kd3⟩
      clear kr0
      try simp only [Act.put, List.setIfInBounds_toArray, List.set_cons_zero, List.set_cons_succ]
      obtain ⟨q58, hcur⟩ : ∃ uu, uu = q57.setRow (b7) (sA (dgt y)) := ⟨_, rfl⟩
      rw [← hcur] at hHeld kB kd2 kd3 kd4 kr7 kr6 ⊢
      clear hcur
      refine wpAnyH_done (by kernel_rfl) ?_ _
      refine NoPanic.normal ?_
      go_wp2_with fail
      go_meet
      exact ⟨b6, b7, rfl, rfl, by omega, by omega, by omega, kB, kd2, kd3, kd4, kr6, kr7⟩
    case rest =>
      clear kB kd2 kd3 kd4 hl1 hl2
      obtain ⟨b6, b7, rfl, rfl, h6, h7, h67, kB, kd2, kd3, kd4, kr6, kr7⟩ := hcut
      have c0d2 := kd2.c0; have c1d2 := kd2.c1; have c0d3 := kd3.c0; have c1d3 := kd3.c1
      go_wp2_with fail
      clear c0d2 c1d2 c0d3 c1d3
      refine (differ_calls m s n t _).mono ?_; rintro e w2 ⟨rfl, b2⟩
      replace kB := kB.trans (b2.mono kB.size)
      replace kd2 := kd2.below b2
      replace kd3 := kd3.below b2
      replace kd4 := kd4.below b2
      replace kr6 := kr6.keep b2
      replace kr7 := kr7.keep b2
      clear b2
      by_cases hd : decide (m < 0) = decide (n < 0)
      · have hdb : (decide (m < 0) != decide (n < 0)) = false := by rw [hd]; cases decide (n < 0) <;> rfl
        obtain ⟨a, b, c, hab⟩ := normV_form (decOf (decide (m < 0)) (x + y) 18)
        have hres : Hid (normV (plusO m s n t) = .tuple #[dv2 a b, .bool c]) := by show _ = _; rw [hpl.out, ← hsame.out hd, hab]
        have hc1 := Lib.hid (fun W => plus_calls x y W)
        have hc2 := Lib.hid (fun W => decimal_calls (decide (m < 0)) (x + y) 18 W (by have := Hb.out; omega) (by omega))
        rw [show ((18 : Nat) : Int) = 18 from rfl, hab] at hc2
        rw [hdb]
        clear hd hdb hab hsame hless hmore Hb hpl
        go_upto_region 5 with (fail)
        refine wp_region_noPanic ?_
        refine wp_region_held_drew (S := fun X => Below w.heap.size w X ∧ DecAt X (w.heap.size) m s ∧ DecAt X (w.heap.size + 1) n t ∧ SAt X b6 (dgt x) ∧ SAt X b7 (dgt y)) (by kernel_rfl) ?_ (fun hHeld => ?_)
        · exact ⟨Below.drew kB, DecAt.drew kd2, DecAt.drew kd3, SAt.drew1 kr6, SAt.drew1 kr7⟩
        replace kB := Below.drew kB
        replace kd2 := DecAt.drew kd2
        replace kd3 := DecAt.drew kd3
        replace kd4 := DecAt.drew kd4
        replace kr6 := SAt.drew1 kr6
        replace kr7 := SAt.drew1 kr7
        obtain ⟨qw, hcur⟩ : ∃ uu, uu = w2.drew := ⟨_, rfl⟩
        rw [← hcur] at hHeld kB kd2 kd3 kd4 kr6 kr7 ⊢
        clear hcur
        refine wpAnyH_take (i := 0) (v := ?_) (by simp only [List.getElem?_toArray, List.getElem?_cons_succ, List.getElem?_cons_zero]; rfl) (by kernel_rfl) (by kernel_rfl) (by kernel_rfl) (fun _ _ _ h => h) (Or.inl ⟨by rfl, ?_⟩) hHeld ?_
        rotate_left
        · intro x hSw; first | (go_simp; done) | (go_simp; with_reducible rfl)
        try simp only [Act.put, List.setIfInBounds_toArray, List.set_cons_zero, List.set_cons_succ]
        refine wpAnyH_take (i := 1) (v := ?_) (by simp only [List.getElem?_toArray, List.getElem?_cons_succ, List.getElem?_cons_zero]; rfl) (by kernel_rfl) (by kernel_rfl) (by kernel_rfl) (fun _ _ _ h => h) (Or.inl ⟨by rfl, ?_⟩) hHeld ?_
        rotate_left
        · intro x hSw; (try dsimp only at hSw); obtain ⟨_, hd2, hd3, hr6, hr7⟩ := hSw; have c0d2 := hd2.c0; have c1d2 := hd2.c1; have c0d3 := hd3.c0; have c1d3 := hd3.c1; first | (go_simp; done) | (go_simp; with_reducible rfl)
        try simp only [Act.put, List.setIfInBounds_toArray, List.set_cons_zero, List.set_cons_succ]
        refine wpAnyH_take (i := 2) (v := ?_) (by simp only [List.getElem?_toArray, List.getElem?_cons_succ, List.getElem?_cons_zero]; rfl) (by kernel_rfl) (by kernel_rfl) (by kernel_rfl) (fun _ _ _ h => h) (Or.inl ⟨by rfl, ?_⟩) hHeld ?_
        rotate_left
        · intro x hSw; first | (go_simp; done) | (go_simp; with_reducible rfl)
        try simp only [Act.put, List.setIfInBounds_toArray, List.set_cons_zero, List.set_cons_succ]
        refine wpAnyH_take (i := 3) (v := .agg (sA (dgt x))) (by simp only [List.getElem?_toArray, List.getElem?_cons_succ, List.getElem?_cons_zero]; rfl) (by kernel_rfl) (by kernel_rfl) (by kernel_rfl) (fun _ _ _ h => h) (yields_load_sA (by rfl) (.tmp 6) (by rfl) (b6) _ (by rfl) (fun _ hSw => ((((hSw).2).2).2).1)) hHeld ?_
        try simp only [Act.put, List.setIfInBounds_toArray, List.set_cons_zero, List.set_cons_succ]
        refine wpAnyH_take (i := 4) (v := .agg (sA (dgt y))) (by simp only [List.getElem?_toArray, List.getElem?_cons_succ, List.getElem?_cons_zero]; rfl) (by kernel_rfl) (by kernel_rfl) (by kernel_rfl) (fun _ _ _ h => h) (yields_load_sA (by rfl) (.tmp 7) (by rfl) (b7) _ (by rfl) (fun _ hSw => ((((hSw).2).2).2).2)) hHeld ?_
        try simp only [Act.put, List.setIfInBounds_toArray, List.set_cons_zero, List.set_cons_succ]
        refine wpAnyH_ready (rs := [5]) (by kernel_rfl) (by simp) ?_
        refine AllReadyH.cons (by simp only [List.getElem?_toArray, List.getElem?_cons_succ, List.getElem?_cons_zero]; rfl) (fun K hK => ?_) AllReadyH.nil
        try go_simp
        refine (hc1.out _).mono ?_; rintro e wq1 ⟨rfl, q1⟩
        replace kB := kB.trans (q1.mono kB.size)
        replace kd2 := kd2.below q1
        replace kd3 := kd3.below q1
        replace kd4 := kd4.below q1
        replace kr6 := kr6.keep q1
        replace kr7 := kr7.keep q1
        clear q1
        try go_wp2_with fail
        refine hK.out _ _ ?_ (fun hHeld => ?_)
        · exact ⟨kB, kd2, kd3, kr6, kr7⟩
        clear hK K
        try simp only [Act.put, List.setIfInBounds_toArray, List.set_cons_zero, List.set_cons_succ]
        refine wpAnyH_ready (rs := [6]) (by kernel_rfl) (by simp) ?_
        refine AllReadyH.cons (by simp only [List.getElem?_toArray, List.getElem?_cons_succ, List.getElem?_cons_zero]; rfl) (fun K hK => ?_) AllReadyH.nil
        try go_simp
        refine (hc2.out _).mono ?_; rintro e wq2 ⟨rfl, q2⟩
        replace kB := kB.trans (q2.mono kB.size)
        replace kd2 := kd2.below q2
        replace kd3 := kd3.below q2
        replace kd4 := kd4.below q2
        replace kr6 := kr6.keep q2
        replace kr7 := kr7.keep q2
        clear q2
        try go_wp2_with fail
        refine hK.out _ _ ?_ (fun hHeld => ?_)
        · exact ⟨kB, kd2, kd3, kr6, kr7⟩
        clear hK K
        try simp only [Act.put, List.setIfInBounds_toArray, List.set_cons_zero, List.set_cons_succ]
        refine wpAnyH_take (i := 7) (v := ?_) (by simp only [List.getElem?_toArray, List.getElem?_cons_succ, List.getElem?_cons_zero]; rfl) (by kernel_rfl) (by kernel_rfl) (by kernel_rfl) (fun _ _ _ h => h) (Or.inl ⟨by rfl, ?_⟩) hHeld ?_
        rotate_left
        · intro x hSw; first | (go_simp; done) | (go_simp; with_reducible rfl)
        try simp only [Act.put, List.setIfInBounds_toArray, List.set_cons_zero, List.set_cons_succ]
        refine wpAnyH_take (i := 8) (v := ?_) (by simp only [List.getElem?_toArray, List.getElem?_cons_succ, List.getElem?_cons_zero]; rfl) (by kernel_rfl) (by kernel_rfl) (by kernel_rfl) (fun _ _ _ h => h) (Or.inl ⟨by rfl, ?_⟩) hHeld ?_
        rotate_left
        · intro x hSw; first | (go_simp; done) | (go_simp; with_reducible rfl)
        try simp only [Act.put, List.setIfInBounds_toArray, List.set_cons_zero, List.set_cons_succ]
        refine wpAnyH_ready (rs := [9]) (by kernel_rfl) (by simp) ?_
        refine AllReadyH.cons (by simp only [List.getElem?_toArray, List.getElem?_cons_succ, List.getElem?_cons_zero]; rfl) (fun K hK => ?_) AllReadyH.nil
        have sc0 := kd4.c0; have sc1 := kd4.c1; have sf0 := kd4.f0; have sf1 := kd4.f1
        go_simp
        clear sc0 sc1 sf0 sf1
        replace kB := below_put (g := (w.heap.size + 2)) kB (by omega) (a) (b)
        replace kd2 := kd2.putOther (g := (w.heap.size + 2)) (by omega) (a) (b)
        replace kd3 := kd3.putOther (g := (w.heap.size + 2)) (by omega) (a) (b)
        replace kd4 := kd4.put (a) (b)
        replace kr6 := kr6.putOther (g := (w.heap.size + 2)) (by omega) (a) (b)
        replace kr7 := kr7.putOther (g := (w.heap.size + 2)) (by omega) (a) (b)
        unfold putDec at kB kd2 kd3 kd4 kr6 kr7
        refine hK.out _ _ ?_ (fun hHeld => ?_)
        · exact ⟨kB, kd2, kd3, kr6, kr7⟩
        clear hK K
        try simp only [Act.put, List.setIfInBounds_toArray, List.set_cons_zero, List.set_cons_succ]
        refine wpAnyH_take (i := 10) (v := ?_) (by simp only [List.getElem?_toArray, List.getElem?_cons_succ, List.getElem?_cons_zero]; rfl) (by kernel_rfl) (by kernel_rfl) (by kernel_rfl) (fun _ _ _ h => h) (Or.inl ⟨by rfl, ?_⟩) hHeld ?_
        rotate_left
        · intro x hSw; first | (go_simp; done) | (go_simp; with_reducible rfl)
        try simp only [Act.put, List.setIfInBounds_toArray, List.set_cons_zero, List.set_cons_succ]
        refine wpAnyH_done (by kernel_rfl) ?_ _
        refine NoPanic.normal ?_
        have sc0 := kd4.c0
        have sc1 := kd4.c1
        try go_wp2_with fail
        refine bodyPost_ret (v := .tuple #[dv2 a b, .bool c]) (by simp [results, Try.results23, go_sem, sc0, sc1]) rfl ⟨by rw [hres.out], kB⟩
      · have hdb : (decide (m < 0) != decide (n < 0)) = true := by
          revert hd
          cases decide (m < 0) <;> cases decide (n < 0) <;> simp
        rw [hdb]
        have hcm := Lib.hid (fun W => compare_calls x y (by have := Hb.out; omega) (by have := Hb.out; omega) W)
        clear hdb hsame
        go_wp2_with (first
          | (refine wpList_load_row rfl 43 _ rfl b6 rfl 43 _ (0, 0) _ kr6.heap Try.underlying43 rfl (by rw [sA_size]; exact sum_info) ?_)
          | (refine wpList_load_row rfl 43 _ rfl b7 rfl 43 _ (0, 0) _ kr7.heap Try.underlying43 rfl (by rw [sA_size]; exact sum_info) ?_))
        refine (hcm.out _).mono ?_; rintro e w3 ⟨rfl, b3⟩
        replace kB := kB.trans (b3.mono kB.size)
        replace kd2 := kd2.below b3
        replace kd3 := kd3.below b3
        replace kd4 := kd4.below b3
        replace kr6 := kr6.keep b3
        replace kr7 := kr7.keep b3
        clear b3
        by_cases hlt : x < y
        · have ho : ord3 (x : Int) (y : Int) = -1 := ord3_lt (by omega)
          obtain ⟨a, b, c, hab⟩ := normV_form (decOf (decide (n < 0)) (y - x) 18)
          have hres : Hid (normV (plusO m s n t) = .tuple #[dv2 a b, .bool c]) := by show _ = _; rw [hpl.out, ← hless.out hd hlt, hab]
          have hc1 := Lib.hid (fun W => minus_calls y x W (by omega))
          have hc2 := Lib.hid (fun W => decimal_calls (decide (n < 0)) (y - x) 18 W (by have := Hb.out; omega) (by omega))
          rw [show ((18 : Nat) : Int) = 18 from rfl, hab] at hc2
          rw [ho]
          clear hd ho hab hless hmore Hb hpl hcm hlt
          go_upto_region 7 with (fail)
          refine wp_region_noPanic ?_
          refine wp_region_held_drew (S := fun X => Below w.heap.size w X ∧ DecAt X (w.heap.size) m s ∧ DecAt X (w.heap.size + 1) n t ∧ SAt X b6 (dgt x) ∧ SAt X b7 (dgt y)) (by kernel_rfl) ?_ (fun hHeld => ?_)
          · exact ⟨Below.drew kB, DecAt.drew kd2, DecAt.drew kd3, SAt.drew1 kr6, SAt.drew1 kr7⟩
          replace kB := Below.drew kB
          replace kd2 := DecAt.drew kd2
          replace kd3 := DecAt.drew kd3
          replace kd4 := DecAt.drew kd4
          replace kr6 := SAt.drew1 kr6
          replace kr7 := SAt.drew1 kr7
          obtain ⟨qw, hcur⟩ : ∃ uu, uu = w3.drew := ⟨_, rfl⟩
          rw [← hcur] at hHeld kB kd2 kd3 kd4 kr6 kr7 ⊢
          clear hcur
          refine wpAnyH_take (i := 0) (v := ?_) (by simp only [List.getElem?_toArray, List.getElem?_cons_succ, List.getElem?_cons_zero]; rfl) (by kernel_rfl) (by kernel_rfl) (by kernel_rfl) (fun _ _ _ h => h) (Or.inl ⟨by rfl, ?_⟩) hHeld ?_
          rotate_left
          · intro x hSw; first | (go_simp; done) | (go_simp; with_reducible rfl)
          try simp only [Act.put, List.setIfInBounds_toArray, List.set_cons_zero, List.set_cons_succ]
          refine wpAnyH_take (i := 1) (v := ?_) (by simp only [List.getElem?_toArray, List.getElem?_cons_succ, List.getElem?_cons_zero]; rfl) (by kernel_rfl) (by kernel_rfl) (by kernel_rfl) (fun _ _ _ h => h) (Or.inl ⟨by rfl, ?_⟩) hHeld ?_
          rotate_left
          · intro x hSw; (try dsimp only at hSw); obtain ⟨_, hd2, hd3, hr6, hr7⟩ := hSw; have c0d2 := hd2.c0; have c1d2 := hd2.c1; have c0d3 := hd3.c0; have c1d3 := hd3.c1; first | (go_simp; done) | (go_simp; with_reducible rfl)
          try simp only [Act.put, List.setIfInBounds_toArray, List.set_cons_zero, List.set_cons_succ]
          refine wpAnyH_take (i := 2) (v := ?_) (by simp only [List.getElem?_toArray, List.getElem?_cons_succ, List.getElem?_cons_zero]; rfl) (by kernel_rfl) (by kernel_rfl) (by kernel_rfl) (fun _ _ _ h => h) (Or.inl ⟨by rfl, ?_⟩) hHeld ?_
          rotate_left
          · intro x hSw; first | (go_simp; done) | (go_simp; with_reducible rfl)
          try simp only [Act.put, List.setIfInBounds_toArray, List.set_cons_zero, List.set_cons_succ]
          refine wpAnyH_take (i := 3) (v := .agg (sA (dgt y))) (by simp only [List.getElem?_toArray, List.getElem?_cons_succ, List.getElem?_cons_zero]; rfl) (by kernel_rfl) (by kernel_rfl) (by kernel_rfl) (fun _ _ _ h => h) (yields_load_sA (by rfl) (.tmp 7) (by rfl) (b7) _ (by rfl) (fun _ hSw => ((((hSw).2).2).2).2)) hHeld ?_
          try simp only [Act.put, List.setIfInBounds_toArray, List.set_cons_zero, List.set_cons_succ]
          refine wpAnyH_take (i := 4) (v := .agg (sA (dgt x))) (by simp only [List.getElem?_toArray, List.getElem?_cons_succ, List.getElem?_cons_zero]; rfl) (by kernel_rfl) (by kernel_rfl) (by kernel_rfl) (fun _ _ _ h => h) (yields_load_sA (by rfl) (.tmp 6) (by rfl) (b6) _ (by rfl) (fun _ hSw => ((((hSw).2).2).2).1)) hHeld ?_
          try simp only [Act.put, List.setIfInBounds_toArray, List.set_cons_zero, List.set_cons_succ]
          refine wpAnyH_ready (rs := [5]) (by kernel_rfl) (by simp) ?_
          refine AllReadyH.cons (by simp only [List.getElem?_toArray, List.getElem?_cons_succ, List.getElem?_cons_zero]; rfl) (fun K hK => ?_) AllReadyH.nil
          try go_simp
          refine (hc1.out _).mono ?_; rintro e wq1 ⟨rfl, q1⟩
          replace kB := kB.trans (q1.mono kB.size)
          replace kd2 := kd2.below q1
          replace kd3 := kd3.below q1
          replace kd4 := kd4.below q1
          replace kr6 := kr6.keep q1
          replace kr7 := kr7.keep q1
          clear q1
          try go_wp2_with fail
          refine hK.out _ _ ?_ (fun hHeld => ?_)
          · exact ⟨kB, kd2, kd3, kr6, kr7⟩
          clear hK K
          try simp only [Act.put, List.setIfInBounds_toArray, List.set_cons_zero, List.set_cons_succ]
          refine wpAnyH_ready (rs := [6]) (by kernel_rfl) (by simp) ?_
          refine AllReadyH.cons (by simp only [List.getElem?_toArray, List.getElem?_cons_succ, List.getElem?_cons_zero]; rfl) (fun K hK => ?_) AllReadyH.nil
          try go_simp
          refine (hc2.out _).mono ?_; rintro e wq2 ⟨rfl, q2⟩
          replace kB := kB.trans (q2.mono kB.size)
          replace kd2 := kd2.below q2
          replace kd3 := kd3.below q2
          replace kd4 := kd4.below q2
          replace kr6 := kr6.keep q2
          replace kr7 := kr7.keep q2
          clear q2
          try go_wp2_with fail
          refine hK.out _ _ ?_ (fun hHeld => ?_)
          · exact ⟨kB, kd2, kd3, kr6, kr7⟩
          clear hK K
          try simp only [Act.put, List.setIfInBounds_toArray, List.set_cons_zero, List.set_cons_succ]
          refine wpAnyH_take (i := 7) (v := ?_) (by simp only [List.getElem?_toArray, List.getElem?_cons_succ, List.getElem?_cons_zero]; rfl) (by kernel_rfl) (by kernel_rfl) (by kernel_rfl) (fun _ _ _ h => h) (Or.inl ⟨by rfl, ?_⟩) hHeld ?_
          rotate_left
          · intro x hSw; first | (go_simp; done) | (go_simp; with_reducible rfl)
          try simp only [Act.put, List.setIfInBounds_toArray, List.set_cons_zero, List.set_cons_succ]
          refine wpAnyH_take (i := 8) (v := ?_) (by simp only [List.getElem?_toArray, List.getElem?_cons_succ, List.getElem?_cons_zero]; rfl) (by kernel_rfl) (by kernel_rfl) (by kernel_rfl) (fun _ _ _ h => h) (Or.inl ⟨by rfl, ?_⟩) hHeld ?_
          rotate_left
          · intro x hSw; first | (go_simp; done) | (go_simp; with_reducible rfl)
          try simp only [Act.put, List.setIfInBounds_toArray, List.set_cons_zero, List.set_cons_succ]
          refine wpAnyH_ready (rs := [9]) (by kernel_rfl) (by simp) ?_
          refine AllReadyH.cons (by simp only [List.getElem?_toArray, List.getElem?_cons_succ, List.getElem?_cons_zero]; rfl) (fun K hK => ?_) AllReadyH.nil
          have sc0 := kd4.c0; have sc1 := kd4.c1; have sf0 := kd4.f0; have sf1 := kd4.f1
          go_simp
          clear sc0 sc1 sf0 sf1
          replace kB := below_put (g := (w.heap.size + 2)) kB (by omega) (a) (b)
          replace kd2 := kd2.putOther (g := (w.heap.size + 2)) (by omega) (a) (b)
          replace kd3 := kd3.putOther (g := (w.heap.size + 2)) (by omega) (a) (b)
          replace kd4 := kd4.put (a) (b)
          replace kr6 := kr6.putOther (g := (w.heap.size + 2)) (by omega) (a) (b)
          replace kr7 := kr7.putOther (g := (w.heap.size + 2)) (by omega) (a) (b)
          unfold putDec at kB kd2 kd3 kd4 kr6 kr7
          refine hK.out _ _ ?_ (fun hHeld => ?_)
          · exact ⟨kB, kd2, kd3, kr6, kr7⟩
          clear hK K
          try simp only [Act.put, List.setIfInBounds_toArray, List.set_cons_zero, List.set_cons_succ]
          refine wpAnyH_take (i := 10) (v := ?_) (by simp only [List.getElem?_toArray, List.getElem?_cons_succ, List.getElem?_cons_zero]; rfl) (by kernel_rfl) (by kernel_rfl) (by kernel_rfl) (fun _ _ _ h => h) (Or.inl ⟨by rfl, ?_⟩) hHeld ?_
          rotate_left
          · intro x hSw; first | (go_simp; done) | (go_simp; with_reducible rfl)
          try simp only [Act.put, List.setIfInBounds_toArray, List.set_cons_zero, List.set_cons_succ]
          refine wpAnyH_done (by kernel_rfl) ?_ _
          refine NoPanic.normal ?_
          have sc0 := kd4.c0
          have sc1 := kd4.c1
          try go_wp2_with fail
          refine bodyPost_ret (v := .tuple #[dv2 a b, .bool c]) (by simp [results, Try.results23, go_sem, sc0, sc1]) rfl ⟨by rw [hres.out], kB⟩
        · have ho : ¬ ord3 (x : Int) (y : Int) < 0 := by
            rcases ord3_cases (x : Int) (y : Int) with ⟨h, e⟩ | ⟨h, e⟩ | ⟨h, e⟩ <;> omega
          obtain ⟨a, b, c, hab⟩ := normV_form (decOf (decide (m < 0)) (x - y) 18)
          have hres : Hid (normV (plusO m s n t) = .tuple #[dv2 a b, .bool c]) := by show _ = _; rw [hpl.out, ← hmore.out hd hlt, hab]
          have hc1 := Lib.hid (fun W => minus_calls x y W (by omega))
          have hc2 := Lib.hid (fun W => decimal_calls (decide (m < 0)) (x - y) 18 W (by have := Hb.out; omega) (by omega))
          rw [show ((18 : Nat) : Int) = 18 from rfl, hab] at hc2
          obtain ⟨od, hod⟩ : ∃ od, ord3 (x : Int) (y : Int) = od := ⟨_, rfl⟩
          rw [hod] at ho ⊢
          clear hd hod hab hless hmore Hb hpl hcm hlt
          go_upto_region 8 with (fail)
          refine wp_region_noPanic ?_
          refine wp_region_held_drew (S := fun X => Below w.heap.size w X ∧ DecAt X (w.heap.size) m s ∧ DecAt X (w.heap.size + 1) n t ∧ SAt X b6 (dgt x) ∧ SAt X b7 (dgt y)) (by kernel_rfl) ?_ (fun hHeld => ?_)
          · exact ⟨Below.drew kB, DecAt.drew kd2, DecAt.drew kd3, SAt.drew1 kr6, SAt.drew1 kr7⟩
          replace kB := Below.drew kB
          replace kd2 := DecAt.drew kd2
          replace kd3 := DecAt.drew kd3
          replace kd4 := DecAt.drew kd4
          replace kr6 := SAt.drew1 kr6
          replace kr7 := SAt.drew1 kr7
          obtain ⟨qw, hcur⟩ : ∃ uu, uu = w3.drew := ⟨_, rfl⟩
          rw [← hcur] at hHeld kB kd2 kd3 kd4 kr6 kr7 ⊢
          clear hcur
          refine wpAnyH_take (i := 0) (v := ?_) (by simp only [List.getElem?_toArray, List.getElem?_cons_succ, List.getElem?_cons_zero]; rfl) (by kernel_rfl) (by kernel_rfl) (by kernel_rfl) (fun _ _ _ h => h) (Or.inl ⟨by rfl, ?_⟩) hHeld ?_
          rotate_left
          · intro x hSw; first | (go_simp; done) | (go_simp; with_reducible rfl)
          try simp only [Act.put, List.setIfInBounds_toArray, List.set_cons_zero, List.set_cons_succ]
          refine wpAnyH_take (i := 1) (v := ?_) (by simp only [List.getElem?_toArray, List.getElem?_cons_succ, List.getElem?_cons_zero]; rfl) (by kernel_rfl) (by kernel_rfl) (by kernel_rfl) (fun _ _ _ h => h) (Or.inl ⟨by rfl, ?_⟩) hHeld ?_
          rotate_left
          · intro x hSw; (try dsimp only at hSw); obtain ⟨_, hd2, hd3, hr6, hr7⟩ := hSw; have c0d2 := hd2.c0; have c1d2 := hd2.c1; have c0d3 := hd3.c0; have c1d3 := hd3.c1; first | (go_simp; done) | (go_simp; with_reducible rfl)
          try simp only [Act.put, List.setIfInBounds_toArray, List.set_cons_zero, List.set_cons_succ]
          refine wpAnyH_take (i := 2) (v := ?_) (by simp only [List.getElem?_toArray, List.getElem?_cons_succ, List.getElem?_cons_zero]; rfl) (by kernel_rfl) (by kernel_rfl) (by kernel_rfl) (fun _ _ _ h => h) (Or.inl ⟨by rfl, ?_⟩) hHeld ?_
          rotate_left
          · intro x hSw; first | (go_simp; done) | (go_simp; with_reducible rfl)
          try simp only [Act.put, List.setIfInBounds_toArray, List.set_cons_zero, List.set_cons_succ]
          refine wpAnyH_take (i := 3) (v := .agg (sA (dgt x))) (by simp only [List.getElem?_toArray, List.getElem?_cons_succ, List.getElem?_cons_zero]; rfl) (by kernel_rfl) (by kernel_rfl) (by kernel_rfl) (fun _ _ _ h => h) (yields_load_sA (by rfl) (.tmp 6) (by rfl) (b6) _ (by rfl) (fun _ hSw => ((((hSw).2).2).2).1)) hHeld ?_
          try simp only [Act.put, List.setIfInBounds_toArray, List.set_cons_zero, List.set_cons_succ]
          refine wpAnyH_take (i := 4) (v := .agg (sA (dgt y))) (by simp only [List.getElem?_toArray, List.getElem?_cons_succ, List.getElem?_cons_zero]; rfl) (by kernel_rfl) (by kernel_rfl) (by kernel_rfl) (fun _ _ _ h => h) (yields_load_sA (by rfl) (.tmp 7) (by rfl) (b7) _ (by rfl) (fun _ hSw => ((((hSw).2).2).2).2)) hHeld ?_
          try simp only [Act.put, List.setIfInBounds_toArray, List.set_cons_zero, List.set_cons_succ]
          refine wpAnyH_ready (rs := [5]) (by kernel_rfl) (by simp) ?_
          refine AllReadyH.cons (by simp only [List.getElem?_toArray, List.getElem?_cons_succ, List.getElem?_cons_zero]; rfl) (fun K hK => ?_) AllReadyH.nil
          try go_simp
          refine (hc1.out _).mono ?_; rintro e wq1 ⟨rfl, q1⟩
          replace kB := kB.trans (q1.mono kB.size)
          replace kd2 := kd2.below q1
          replace kd3 := kd3.below q1
          replace kd4 := kd4.below q1
          replace kr6 := kr6.keep q1
          replace kr7 := kr7.keep q1
          clear q1
          try go_wp2_with fail
          refine hK.out _ _ ?_ (fun hHeld => ?_)
          · exact ⟨kB, kd2, kd3, kr6, kr7⟩
          clear hK K
          try simp only [Act.put, List.setIfInBounds_toArray, List.set_cons_zero, List.set_cons_succ]
          refine wpAnyH_ready (rs := [6]) (by kernel_rfl) (by simp) ?_
          refine AllReadyH.cons (by simp only [List.getElem?_toArray, List.getElem?_cons_succ, List.getElem?_cons_zero]; rfl) (fun K hK => ?_) AllReadyH.nil
          try go_simp
          refine (hc2.out _).mono ?_; rintro e wq2 ⟨rfl, q2⟩
          replace kB := kB.trans (q2.mono kB.size)
          replace kd2 := kd2.below q2
          replace kd3 := kd3.below q2
          replace kd4 := kd4.below q2
          replace kr6 := kr6.keep q2
          replace kr7 := kr7.keep q2
          clear q2
          try go_wp2_with fail
          refine hK.out _ _ ?_ (fun hHeld => ?_)
          · exact ⟨kB, kd2, kd3, kr6, kr7⟩
          clear hK K
          try simp only [Act.put, List.setIfInBounds_toArray, List.set_cons_zero, List.set_cons_succ]
          refine wpAnyH_take (i := 7) (v := ?_) (by simp only [List.getElem?_toArray, List.getElem?_cons_succ, List.getElem?_cons_zero]; rfl) (by kernel_rfl) (by kernel_rfl) (by kernel_rfl) (fun _ _ _ h => h) (Or.inl ⟨by rfl, ?_⟩) hHeld ?_
          rotate_left
          · intro x hSw; first | (go_simp; done) | (go_simp; with_reducible rfl)
          try simp only [Act.put, List.setIfInBounds_toArray, List.set_cons_zero, List.set_cons_succ]
          refine wpAnyH_take (i := 8) (v := ?_) (by simp only [List.getElem?_toArray, List.getElem?_cons_succ, List.getElem?_cons_zero]; rfl) (by kernel_rfl) (by kernel_rfl) (by kernel_rfl) (fun _ _ _ h => h) (Or.inl ⟨by rfl, ?_⟩) hHeld ?_
          rotate_left
          · intro x hSw; first | (go_simp; done) | (go_simp; with_reducible rfl)
          try simp only [Act.put, List.setIfInBounds_toArray, List.set_cons_zero, List.set_cons_succ]
          refine wpAnyH_ready (rs := [9]) (by kernel_rfl) (by simp) ?_
          refine AllReadyH.cons (by simp only [List.getElem?_toArray, List.getElem?_cons_succ, List.getElem?_cons_zero]; rfl) (fun K hK => ?_) AllReadyH.nil
          have sc0 := kd4.c0; have sc1 := kd4.c1; have sf0 := kd4.f0; have sf1 := kd4.f1
          go_simp
          clear sc0 sc1 sf0 sf1
          replace kB := below_put (g := (w.heap.size + 2)) kB (by omega) (a) (b)
          replace kd2 := kd2.putOther (g := (w.heap.size + 2)) (by omega) (a) (b)
          replace kd3 := kd3.putOther (g := (w.heap.size + 2)) (by omega) (a) (b)
          replace kd4 := kd4.put (a) (b)
          replace kr6 := kr6.putOther (g := (w.heap.size + 2)) (by omega) (a) (b)
          replace kr7 := kr7.putOther (g := (w.heap.size + 2)) (by omega) (a) (b)
          unfold putDec at kB kd2 kd3 kd4 kr6 kr7
          refine hK.out _ _ ?_ (fun hHeld => ?_)
          · exact ⟨kB, kd2, kd3, kr6, kr7⟩
          clear hK K
          try simp only [Act.put, List.setIfInBounds_toArray, List.set_cons_zero, List.set_cons_succ]
          refine wpAnyH_take (i := 10) (v := ?_) (by simp only [List.getElem?_toArray, List.getElem?_cons_succ, List.getElem?_cons_zero]; rfl) (by kernel_rfl) (by kernel_rfl) (by kernel_rfl) (fun _ _ _ h => h) (Or.inl ⟨by rfl, ?_⟩) hHeld ?_
          rotate_left
          · intro x hSw; first | (go_simp; done) | (go_simp; with_reducible rfl)
          try simp only [Act.put, List.setIfInBounds_toArray, List.set_cons_zero, List.set_cons_succ]
          refine wpAnyH_done (by kernel_rfl) ?_ _
          refine NoPanic.normal ?_
          have sc0 := kd4.c0
          have sc1 := kd4.c1
          try go_wp2_with fail
          refine bodyPost_ret (v := .tuple #[dv2 a b, .bool c]) (by simp [results, Try.results23, go_sem, sc0, sc1]) rfl ⟨by rw [hres.out], kB⟩

end Go.Proofs.Ytpciohnnnpgpiaa
