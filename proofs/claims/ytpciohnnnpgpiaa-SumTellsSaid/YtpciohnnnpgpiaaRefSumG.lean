/- The reference's Neg; its sum of all. -/
import Derived.Test.YtpciohnnnpgpiaaRefSumF
import Derived.Test.YtpciohnnnpgpiaaSumY
set_option linter.unusedVariables false
set_option linter.unusedSimpArgs false
namespace Go.Proofs.Ytpciohnnnpgpiaa
open Go.RowKit Dc
attribute [local go_sem ↓] Go.wp_at_zero Go.wp_at_succ

set_option maxHeartbeats 4000000 in
theorem rneg_walk (m s : Int) (w : World) (hm1 : -9223372036854775808 ≤ m) (hm2 : m ≤ 9223372036854775807) :
    Calls Try.prog 20 #[dv2 m s] w fun e w' => e = .returned (negO m s) ∧ Below w.heap.size w w' := by
  have kB := kb_alloc (kb_alloc (Below.refl w.heap.size w) (Nat.le_refl _) (.cells #[.int .i64 m, .int .i64 s] 25)) (Nat.le_refl _) (.cells #[.int .i64 0, .int .i64 0] 25)
  have kd1 := (DecAt.new w m s).alloc (.cells #[.int .i64 0, .int .i64 0] 25)
  have kd2 := DecAt.new (w.alloc (.cells #[.int .i64 m, .int .i64 s] 25)) 0 0
  rw [show (w.alloc (.cells #[.int .i64 m, .int .i64 s] 25)).heap.size = w.heap.size + 1 by simp] at kd2
  go_enter Try.func20, Try.ntmps20
  go_wp2_with fail
  refine (rgood_calls m s _).mono ?_; rintro e w1 ⟨rfl, b1⟩
  replace kB := kB.trans (b1.mono kB.size)
  replace kd1 := kd1.below b1
  replace kd2 := kd2.below b1
  clear b1
  obtain ⟨p0, p1, p2, p3, p4⟩ := kd1
  obtain ⟨q0, q1, q2, q3, q4⟩ := kd2
  cases hg : goodD m s with
  | false =>
    have hres : Hid (negO m s = dv2 0 0) := by show _ = _; unfold negO; rw [orZ_bad hg]; rfl
    clear hg hm1 hm2
    go_wp2_with fail
    refine bodyPost_ret (v := dv2 0 0) (by simp [results, Try.results20, go_sem, q0, q1, q2, q3, p0, p1, p2, p3]) rfl ⟨by rw [hres.out], ?_⟩
    repeat (refine Below.setCell ?_ (by first | (simp; done) | (simp; omega)) _)
    exact kB
  | true =>
    have hres : Hid (negO m s = dv2 (-m) s) := by show _ = _; unfold negO; rw [orZ_good hg]
    have hpb := big_of hg hm1 hm2
    unfold big at hpb
    have hpb1 : -9223372036854775807 ≤ m := by omega
    clear hg hm1 hpb
    go_wp2_with fail
    refine bodyPost_ret (v := dv2 (-m) s) (by simp [results, Try.results20, go_sem, q0, q1, q2, q3, p0, p1, p2, p3]) rfl ⟨by rw [hres.out], ?_⟩
    repeat (refine Below.setCell ?_ (by first | (simp; done) | (simp; omega)) _)
    exact kB

set_option maxRecDepth 100000 in
set_option maxHeartbeats 4000000 in
theorem raddall_walk (l : List (Int × Int)) (v : Value) (w : World) (hv : DcRow w v l) (hin : ∀ p ∈ l, inI p.1) :
    Calls Try.prog 10 #[v] w fun e w' => e = .returned (addV (addL 0 0 l)) ∧ Below w.heap.size w w' := by
  obtain ⟨A, cap, rfl, h1, h2, h3⟩ := hv
  have Hrow := Lib.hid h3
  unfold maxLen at h2
  have Hin := Lib.hid hin
  have kB := kb_alloc (kb_alloc (Below.refl w.heap.size w) (Nat.le_refl _) (.cells #[.int .i64 0, .int .i64 0] 25)) (Nat.le_refl _) (.cells #[.int .i64 0, .int .i64 0] 25)
  have kd2 := (DecAt.new w 0 0).alloc (.cells #[.int .i64 0, .int .i64 0] 25)
  have kd4 := DecAt.new (w.alloc (.cells #[.int .i64 0, .int .i64 0] 25)) 0 0
  rw [show (w.alloc (.cells #[.int .i64 0, .int .i64 0] 25)).heap.size = w.heap.size + 1 by simp] at kd4
  have H00 := Lib.hid (⟨kB, kd2, kd4⟩ : _ ∧ _ ∧ _)
  clear h3 hin kd2 kB
  obtain ⟨q0, q1, q2, q3, q4⟩ := kd4
  go_enter Try.func10, Try.ntmps10
  go_wp2_with fail
  clear q0 q1 q2 q3 q4
  obtain ⟨kB, kd2, kd4⟩ := H00.out
  clear H00
  obtain ⟨W1, hW1⟩ : ∃ W1 : World, W1 = (w.alloc (.cells #[.int .i64 0, .int .i64 0] 25)).alloc (.cells #[.int .i64 0, .int .i64 0] 25) := ⟨_, rfl⟩
  rw [← hW1] at kB kd2 kd4 ⊢
  have H0 := Lib.hid (⟨kB, kd2, kd4⟩ : _ ∧ _ ∧ _)
  clear hW1 kB kd2 kd4
  go_loopw [5, 6] (fun s5 s6 wr => ∃ (i : Nat) (m s : Int), i ≤ l.length ∧ s5 = .bool true ∧ s6 = .int .i64 (i : Nat) ∧ Hid (Below w.heap.size w wr ∧ DecAt wr w.heap.size 0 0 ∧ DecAt wr (w.heap.size + 1) m s ∧ goodD m s = true ∧ m.natAbs ≤ big ∧ addL m s (l.drop i) = addL 0 0 l)) (fun _ s6 _ => l.length - (intOf s6).toNat)
  case atStart => exact ⟨0, 0, 0, Nat.zero_le _, rfl, rfl, H0.out.1, H0.out.2.1, H0.out.2.2, by decide, by decide, rfl⟩
  case round =>
    clear H0
    obtain ⟨i, m, s, hi, rfl, rfl, H⟩ := hrel
    obtain ⟨kB, kd2, kd4, hg, hm, hadd⟩ := H.out
    clear H
    by_cases hil : i < l.length
    · obtain ⟨b, off, rfl, hlt, hcs⟩ := Hrow.out (by omega)
      obtain ⟨e0, e1⟩ := hcs i l[i] (List.getElem?_eq_getElem hil)
      rw [List.drop_eq_getElem_cons hil] at hadd
      have hnb := Hin.out l[i] (List.getElem_mem hil)
      have hmb : -9223372036854775808 ≤ m ∧ m ≤ 9223372036854775807 := by unfold big at hm; omega
      have hpl := Lib.hid (fun W => radd_walk m s l[i].1 l[i].2 W hmb.1 hmb.2 hnb.1 hnb.2)
      rw [radd_plus hg] at hpl
      have hnone : Hid (plusO m s l[i].1 l[i].2 = none → none = addL 0 0 l) := fun h => (addL_none (r := l.drop (i + 1)) h).symm.trans hadd
      have hsome : Hid (∀ a k, plusO m s l[i].1 l[i].2 = some (a, k) → goodD a k = true ∧ a.natAbs ≤ big ∧ addL a k (l.drop (i + 1)) = addL 0 0 l) := fun a k h => by
        obtain ⟨q1, q2⟩ := plusO_good h
        exact ⟨q1, q2, (addL_some (r := l.drop (i + 1)) h).symm.trans hadd⟩
      generalize l[i] = p at *
      obtain ⟨n, t⟩ := p
      dsimp only at *
      have hi2 : i + 1 ≤ l.length := hil
      clear hcs hadd hnb hm hg hmb
      cases ho : plusO m s n t with
      | none =>
        have hres := Lib.hid (hnone.out ho)
        rw [ho, show normV none = Value.tuple #[dv2 0 0, .bool false] from rfl] at hpl
        clear ho hnone hsome
        go_upto_region 5 with (fail)
        refine wp_region_noPanic ?_
        refine wp_region_held_drew (S := fun X => Below w.heap.size w X ∧ DecAt X (w.heap.size) 0 0) (by kernel_rfl) ?_ (fun hHeld => ?_)
        · exact ⟨Below.drew kB, DecAt.drew kd2⟩
        replace kB := Below.drew kB
        replace kd2 := DecAt.drew kd2
        replace kd4 := DecAt.drew kd4
        obtain ⟨qw, hcur⟩ : ∃ uu, uu = wr.drew := ⟨_, rfl⟩
        rw [← hcur] at hHeld kB kd2 kd4 ⊢
        clear hcur
        refine wpAnyH_take (i := 1) (v := ?_) (by simp only [List.getElem?_toArray, List.getElem?_cons_succ, List.getElem?_cons_zero]; rfl) (by kernel_rfl) (by kernel_rfl) (by kernel_rfl) (fun _ _ _ h => h) (Or.inl ⟨by rfl, ?_⟩) hHeld ?_
        rotate_left
        · intro x hSw; first | (go_simp; done) | (go_simp; with_reducible rfl)
        try simp only [Act.put, List.setIfInBounds_toArray, List.set_cons_zero, List.set_cons_succ]
        refine wpAnyH_take (i := 2) (v := ?_) (by simp only [List.getElem?_toArray, List.getElem?_cons_succ, List.getElem?_cons_zero]; rfl) (by kernel_rfl) (by kernel_rfl) (by kernel_rfl) (fun _ _ _ h => h) (Or.inl ⟨by rfl, ?_⟩) hHeld ?_
        rotate_left
        · intro x hSw; first | (go_simp; done) | (go_simp; with_reducible rfl)
        try simp only [Act.put, List.setIfInBounds_toArray, List.set_cons_zero, List.set_cons_succ]
        refine wpAnyH_take (i := 3) (v := ?_) (by simp only [List.getElem?_toArray, List.getElem?_cons_succ, List.getElem?_cons_zero]; rfl) (by kernel_rfl) (by kernel_rfl) (by kernel_rfl) (fun _ _ _ h => h) (Or.inl ⟨by rfl, ?_⟩) hHeld ?_
        rotate_left
        · intro x hSw; first | (go_simp; done) | (go_simp; with_reducible rfl)
        try simp only [Act.put, List.setIfInBounds_toArray, List.set_cons_zero, List.set_cons_succ]
        refine wpAnyH_take (i := 4) (v := ?_) (by simp only [List.getElem?_toArray, List.getElem?_cons_succ, List.getElem?_cons_zero]; rfl) (by kernel_rfl) (by kernel_rfl) (by kernel_rfl) (fun _ _ _ h => h) (Or.inl ⟨by rfl, ?_⟩) hHeld ?_
        rotate_left
        · intro x hSw; (try dsimp only at hSw); obtain ⟨hBw, hd2⟩ := hSw; have c0d2 := hd2.c0; have c1d2 := hd2.c1; have ec0 := (hBw.cell (p := ⟨b, off + i * 2, none⟩) hlt).trans e0; have ec1 := (hBw.cell (p := ⟨b, off + i * 2 + 1, none⟩) hlt).trans e1; first | (go_simp; done) | (go_simp; with_reducible rfl)
        try simp only [Act.put, List.setIfInBounds_toArray, List.set_cons_zero, List.set_cons_succ]
        refine wpAnyH_ready (rs := [0]) (by kernel_rfl) (by simp) ?_
        refine AllReadyH.cons (by simp only [List.getElem?_toArray, List.getElem?_cons_succ, List.getElem?_cons_zero]; rfl) (fun K hK => ?_) AllReadyH.nil
        have c0d2 := kd2.c0; have c1d2 := kd2.c1; have c0d4 := kd4.c0; have c1d4 := kd4.c1
        go_simp
        clear c0d2 c1d2 c0d4 c1d4
        refine hK.out _ _ ?_ (fun hHeld => ?_)
        · exact ⟨kB, kd2⟩
        clear hK K
        try simp only [Act.put, List.setIfInBounds_toArray, List.set_cons_zero, List.set_cons_succ]
        refine wpAnyH_ready (rs := [5]) (by kernel_rfl) (by simp) ?_
        refine AllReadyH.cons (by simp only [List.getElem?_toArray, List.getElem?_cons_succ, List.getElem?_cons_zero]; rfl) (fun K hK => ?_) AllReadyH.nil
        try go_simp
        refine (hpl.out _).mono ?_; rintro e wq1 ⟨rfl, q1⟩
        replace kB := kB.trans (q1.mono kB.size)
        replace kd2 := kd2.below q1
        replace kd4 := kd4.below q1
        clear q1
        try go_wp2_with fail
        refine hK.out _ _ ?_ (fun hHeld => ?_)
        · exact ⟨kB, kd2⟩
        clear hK K
        try simp only [Act.put, List.setIfInBounds_toArray, List.set_cons_zero, List.set_cons_succ]
        refine wpAnyH_take (i := 6) (v := ?_) (by simp only [List.getElem?_toArray, List.getElem?_cons_succ, List.getElem?_cons_zero]; rfl) (by kernel_rfl) (by kernel_rfl) (by kernel_rfl) (fun _ _ _ h => h) (Or.inl ⟨by rfl, ?_⟩) hHeld ?_
        rotate_left
        · intro x hSw; first | (go_simp; done) | (go_simp; with_reducible rfl)
        try simp only [Act.put, List.setIfInBounds_toArray, List.set_cons_zero, List.set_cons_succ]
        refine wpAnyH_take (i := 7) (v := ?_) (by simp only [List.getElem?_toArray, List.getElem?_cons_succ, List.getElem?_cons_zero]; rfl) (by kernel_rfl) (by kernel_rfl) (by kernel_rfl) (fun _ _ _ h => h) (Or.inl ⟨by rfl, ?_⟩) hHeld ?_
        rotate_left
        · intro x hSw; first | (go_simp; done) | (go_simp; with_reducible rfl)
        try simp only [Act.put, List.setIfInBounds_toArray, List.set_cons_zero, List.set_cons_succ]
        refine wpAnyH_take (i := 8) (v := ?_) (by simp only [List.getElem?_toArray, List.getElem?_cons_succ, List.getElem?_cons_zero]; rfl) (by kernel_rfl) (by kernel_rfl) (by kernel_rfl) (fun _ _ _ h => h) (Or.inl ⟨by rfl, ?_⟩) hHeld ?_
        rotate_left
        · intro x hSw; first | (go_simp; done) | (go_simp; with_reducible rfl)
        try simp only [Act.put, List.setIfInBounds_toArray, List.set_cons_zero, List.set_cons_succ]
        refine wpAnyH_ready (rs := [9]) (by kernel_rfl) (by simp) ?_
        refine AllReadyH.cons (by simp only [List.getElem?_toArray, List.getElem?_cons_succ, List.getElem?_cons_zero]; rfl) (fun K hK => ?_) AllReadyH.nil
        have sc0 := kd4.c0; have sc1 := kd4.c1; have sf0 := kd4.f0; have sf1 := kd4.f1
        go_simp
        clear sc0 sc1 sf0 sf1
        replace kB := below_put (g := (w.heap.size + 1)) kB (by omega) (0) (0)
        replace kd2 := kd2.putOther (g := (w.heap.size + 1)) (by omega) (0) (0)
        replace kd4 := kd4.put (0) (0)
        unfold putDec at kB kd2 kd4
        refine hK.out _ _ ?_ (fun hHeld => ?_)
        · exact ⟨kB, kd2⟩
        clear hK K
        try simp only [Act.put, List.setIfInBounds_toArray, List.set_cons_zero, List.set_cons_succ]
        refine wpAnyH_take (i := 10) (v := ?_) (by simp only [List.getElem?_toArray, List.getElem?_cons_succ, List.getElem?_cons_zero]; rfl) (by kernel_rfl) (by kernel_rfl) (by kernel_rfl) (fun _ _ _ h => h) (Or.inl ⟨by rfl, ?_⟩) hHeld ?_
        rotate_left
        · intro x hSw; first | (go_simp; done) | (go_simp; with_reducible rfl)
        try simp only [Act.put, List.setIfInBounds_toArray, List.set_cons_zero, List.set_cons_succ]
        refine wpAnyH_done (by kernel_rfl) ?_ _
        refine NoPanic.normal ?_
        have p0 := kd2.c0
        have p1 := kd2.c1
        have p2 := kd2.f0
        have p3 := kd2.f1
        try go_wp2_with fail
        refine bodyPost_ret (v := addV none) (by simp [results, Try.results10, go_sem, addV, p0, p1, p2, p3]) rfl ⟨by rw [← hres.out], ?_⟩
        repeat (first | exact kB | refine Below.setCell ?_ (by first | (simp; done) | (simp; omega)) _)
      | some r =>
        obtain ⟨a, k⟩ := r
        have hs := Lib.hid (hsome.out a k ho)
        rw [ho, show normV (some (a, k)) = Value.tuple #[dv2 a k, .bool true] from rfl] at hpl
        clear ho hnone hsome
        go_upto_region 5 with (fail)
        refine wp_region_noPanic ?_
        refine wp_region_held_drew (S := fun X => Below w.heap.size w X ∧ DecAt X (w.heap.size) 0 0) (by kernel_rfl) ?_ (fun hHeld => ?_)
        · exact ⟨Below.drew kB, DecAt.drew kd2⟩
        replace kB := Below.drew kB
        replace kd2 := DecAt.drew kd2
        replace kd4 := DecAt.drew kd4
        obtain ⟨qw, hcur⟩ : ∃ uu, uu = wr.drew := ⟨_, rfl⟩
        rw [← hcur] at hHeld kB kd2 kd4 ⊢
        clear hcur
        refine wpAnyH_take (i := 1) (v := ?_) (by simp only [List.getElem?_toArray, List.getElem?_cons_succ, List.getElem?_cons_zero]; rfl) (by kernel_rfl) (by kernel_rfl) (by kernel_rfl) (fun _ _ _ h => h) (Or.inl ⟨by rfl, ?_⟩) hHeld ?_
        rotate_left
        · intro x hSw; first | (go_simp; done) | (go_simp; with_reducible rfl)
        try simp only [Act.put, List.setIfInBounds_toArray, List.set_cons_zero, List.set_cons_succ]
        refine wpAnyH_take (i := 2) (v := ?_) (by simp only [List.getElem?_toArray, List.getElem?_cons_succ, List.getElem?_cons_zero]; rfl) (by kernel_rfl) (by kernel_rfl) (by kernel_rfl) (fun _ _ _ h => h) (Or.inl ⟨by rfl, ?_⟩) hHeld ?_
        rotate_left
        · intro x hSw; first | (go_simp; done) | (go_simp; with_reducible rfl)
        try simp only [Act.put, List.setIfInBounds_toArray, List.set_cons_zero, List.set_cons_succ]
        refine wpAnyH_take (i := 3) (v := ?_) (by simp only [List.getElem?_toArray, List.getElem?_cons_succ, List.getElem?_cons_zero]; rfl) (by kernel_rfl) (by kernel_rfl) (by kernel_rfl) (fun _ _ _ h => h) (Or.inl ⟨by rfl, ?_⟩) hHeld ?_
        rotate_left
        · intro x hSw; first | (go_simp; done) | (go_simp; with_reducible rfl)
        try simp only [Act.put, List.setIfInBounds_toArray, List.set_cons_zero, List.set_cons_succ]
        refine wpAnyH_take (i := 4) (v := ?_) (by simp only [List.getElem?_toArray, List.getElem?_cons_succ, List.getElem?_cons_zero]; rfl) (by kernel_rfl) (by kernel_rfl) (by kernel_rfl) (fun _ _ _ h => h) (Or.inl ⟨by rfl, ?_⟩) hHeld ?_
        rotate_left
        · intro x hSw; (try dsimp only at hSw); obtain ⟨hBw, hd2⟩ := hSw; have c0d2 := hd2.c0; have c1d2 := hd2.c1; have ec0 := (hBw.cell (p := ⟨b, off + i * 2, none⟩) hlt).trans e0; have ec1 := (hBw.cell (p := ⟨b, off + i * 2 + 1, none⟩) hlt).trans e1; first | (go_simp; done) | (go_simp; with_reducible rfl)
        try simp only [Act.put, List.setIfInBounds_toArray, List.set_cons_zero, List.set_cons_succ]
        refine wpAnyH_ready (rs := [0]) (by kernel_rfl) (by simp) ?_
        refine AllReadyH.cons (by simp only [List.getElem?_toArray, List.getElem?_cons_succ, List.getElem?_cons_zero]; rfl) (fun K hK => ?_) AllReadyH.nil
        have c0d2 := kd2.c0; have c1d2 := kd2.c1; have c0d4 := kd4.c0; have c1d4 := kd4.c1
        go_simp
        clear c0d2 c1d2 c0d4 c1d4
        refine hK.out _ _ ?_ (fun hHeld => ?_)
        · exact ⟨kB, kd2⟩
        clear hK K
        try simp only [Act.put, List.setIfInBounds_toArray, List.set_cons_zero, List.set_cons_succ]
        refine wpAnyH_ready (rs := [5]) (by kernel_rfl) (by simp) ?_
        refine AllReadyH.cons (by simp only [List.getElem?_toArray, List.getElem?_cons_succ, List.getElem?_cons_zero]; rfl) (fun K hK => ?_) AllReadyH.nil
        try go_simp
        refine (hpl.out _).mono ?_; rintro e wq1 ⟨rfl, q1⟩
        replace kB := kB.trans (q1.mono kB.size)
        replace kd2 := kd2.below q1
        replace kd4 := kd4.below q1
        clear q1
        try go_wp2_with fail
        refine hK.out _ _ ?_ (fun hHeld => ?_)
        · exact ⟨kB, kd2⟩
        clear hK K
        try simp only [Act.put, List.setIfInBounds_toArray, List.set_cons_zero, List.set_cons_succ]
        refine wpAnyH_take (i := 6) (v := ?_) (by simp only [List.getElem?_toArray, List.getElem?_cons_succ, List.getElem?_cons_zero]; rfl) (by kernel_rfl) (by kernel_rfl) (by kernel_rfl) (fun _ _ _ h => h) (Or.inl ⟨by rfl, ?_⟩) hHeld ?_
        rotate_left
        · intro x hSw; first | (go_simp; done) | (go_simp; with_reducible rfl)
        try simp only [Act.put, List.setIfInBounds_toArray, List.set_cons_zero, List.set_cons_succ]
        refine wpAnyH_take (i := 7) (v := ?_) (by simp only [List.getElem?_toArray, List.getElem?_cons_succ, List.getElem?_cons_zero]; rfl) (by kernel_rfl) (by kernel_rfl) (by kernel_rfl) (fun _ _ _ h => h) (Or.inl ⟨by rfl, ?_⟩) hHeld ?_
        rotate_left
        · intro x hSw; first | (go_simp; done) | (go_simp; with_reducible rfl)
        try simp only [Act.put, List.setIfInBounds_toArray, List.set_cons_zero, List.set_cons_succ]
        refine wpAnyH_take (i := 8) (v := ?_) (by simp only [List.getElem?_toArray, List.getElem?_cons_succ, List.getElem?_cons_zero]; rfl) (by kernel_rfl) (by kernel_rfl) (by kernel_rfl) (fun _ _ _ h => h) (Or.inl ⟨by rfl, ?_⟩) hHeld ?_
        rotate_left
        · intro x hSw; first | (go_simp; done) | (go_simp; with_reducible rfl)
        try simp only [Act.put, List.setIfInBounds_toArray, List.set_cons_zero, List.set_cons_succ]
        refine wpAnyH_ready (rs := [9]) (by kernel_rfl) (by simp) ?_
        refine AllReadyH.cons (by simp only [List.getElem?_toArray, List.getElem?_cons_succ, List.getElem?_cons_zero]; rfl) (fun K hK => ?_) AllReadyH.nil
        have sc0 := kd4.c0; have sc1 := kd4.c1; have sf0 := kd4.f0; have sf1 := kd4.f1
        go_simp
        clear sc0 sc1 sf0 sf1
        replace kB := below_put (g := (w.heap.size + 1)) kB (by omega) (a) (k)
        replace kd2 := kd2.putOther (g := (w.heap.size + 1)) (by omega) (a) (k)
        replace kd4 := kd4.put (a) (k)
        unfold putDec at kB kd2 kd4
        refine hK.out _ _ ?_ (fun hHeld => ?_)
        · exact ⟨kB, kd2⟩
        clear hK K
        try simp only [Act.put, List.setIfInBounds_toArray, List.set_cons_zero, List.set_cons_succ]
        refine wpAnyH_take (i := 10) (v := ?_) (by simp only [List.getElem?_toArray, List.getElem?_cons_succ, List.getElem?_cons_zero]; rfl) (by kernel_rfl) (by kernel_rfl) (by kernel_rfl) (fun _ _ _ h => h) (Or.inl ⟨by rfl, ?_⟩) hHeld ?_
        rotate_left
        · intro x hSw; first | (go_simp; done) | (go_simp; with_reducible rfl)
        try simp only [Act.put, List.setIfInBounds_toArray, List.set_cons_zero, List.set_cons_succ]
        refine wpAnyH_done (by kernel_rfl) ?_ _
        refine NoPanic.normal ?_
        have HH := Lib.hid (⟨kB, kd2, kd4⟩ : _ ∧ _ ∧ _)
        clear kB kd2 kd4
        try go_wp2_with fail
        go_roundw
        case rel =>
          obtain ⟨kB, kd2, kd4⟩ := HH.out
          exact ⟨i + 1, a, k, hi2, rfl, by go_num, kB, kd2, kd4, hs.out.1, hs.out.2.1, hs.out.2.2⟩
        case measure => simp [intOf]; omega
    · have hres : Hid (addL 0 0 l = some (m, s)) := by
        show _ = _
        rw [← hadd, List.drop_eq_nil_of_le (by omega)]; rfl
      have hB := kB
      obtain ⟨q0, q1, q2, q3, q4⟩ := kd4
      obtain ⟨p0, p1, p2, p3, p4⟩ := kd2
      clear hadd hg hm
      go_wp2_with fail
      refine bodyPost_ret (v := addV (some (m, s))) (by simp [results, Try.results10, go_sem, addV, p0, p1, p2, p3, q0, q1, q2, q3]) rfl ⟨by rw [hres.out], ?_⟩
      repeat (refine Below.setCell ?_ (by first | (simp; done) | (simp; omega)) _)
      exact hB

end Go.Proofs.Ytpciohnnnpgpiaa
