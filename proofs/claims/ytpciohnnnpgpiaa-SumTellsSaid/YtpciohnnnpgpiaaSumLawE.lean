/- The walk of the law SumTells. -/
import Derived.Test.YtpciohnnnpgpiaaSumP
import Derived.Test.YtpciohnnnpgpiaaSumL
import Derived.Test.YtpciohnnnpgpiaaRefSumO
import Derived.Test.YtpciohnnnpgpiaaRefSumI
import Derived.Deep.DeepCutAuto
set_option linter.unusedVariables false
set_option linter.unusedSimpArgs false
namespace Go.Proofs.Ytpciohnnnpgpiaa
open Go.RowKit Dc
attribute [local go_sem ↓] Go.wp_at_zero Go.wp_at_succ

theorem addV_form (o : Option (Int × Int)) : ∃ a b c, addV o = .tuple #[dv2 a b, .bool c] := by
  cases o with
  | none => exact ⟨0, 0, false, rfl⟩
  | some r => exact ⟨r.1, r.2, true, rfl⟩
theorem scaledV_form (o : Option Int) : ∃ a c, scaledV o = .tuple #[.int .i64 a, .bool c] := by
  cases o with
  | none => exact ⟨0, false, rfl⟩
  | some r => exact ⟨r, true, rfl⟩
set_option maxRecDepth 100000 in
set_option maxHeartbeats 16000000 in
theorem tells_walk (l : List (Int × Int)) (v : Value) (s : Int) (w : World) (hv : DcRow w v l) (hin : ∀ p ∈ l, inI p.1) (hs1 : -9223372036854775808 ≤ s) (hs2 : s ≤ 9223372036854775807) :
    Calls Try.prog 3 #[v, .int .i64 s] w fun e w' => e = .returned (.bool true) ∧ Below w.heap.size w w' := by
  have Hv := Lib.hid hv
  have Hin := Lib.hid hin
  obtain ⟨A, cap, rfl, h1, h2, h3⟩ := hv
  have hA1 := Lib.hid (fun W (k : Below w.heap.size w W) => add_walk l _ W (Hv.out.below k) Hin.out)
  have hA2 := Lib.hid (fun W (k : Below w.heap.size w W) => raddall_walk l _ W (Hv.out.below k) Hin.out)
  unfold maxLen at h2
  have Hrow := Lib.hid h3
  have kB := Below.refl w.heap.size w
  clear h3 hin Hv
  by_cases hl2 : l.length < 2
  · have d1 : decide ((l.length : Int) < 2) = true := decide_eq_true (by omega)
    clear hA1 hA2
    go_enter Try.func3, Try.ntmps3
    go_wp2_with fail
    refine (known_calls _).mono ?_; rintro e w1 ⟨rfl, b1⟩
    replace kB := kB.trans (b1.mono kB.size)
    go_wp2_with fail
    go_ret
    exact ⟨rfl, kB⟩
  by_cases hl12 : 12 < l.length
  · have d1 : decide ((l.length : Int) < 2) = false := decide_eq_false (by omega)
    have d2 : decide (12 < (l.length : Int)) = true := decide_eq_true (by omega)
    clear hA1 hA2
    go_enter Try.func3, Try.ntmps3
    go_wp2_with fail
    refine (known_calls _).mono ?_; rintro e w1 ⟨rfl, b1⟩
    replace kB := kB.trans (b1.mono kB.size)
    go_wp2_with fail
    go_ret
    exact ⟨rfl, kB⟩
  have d1 : decide ((l.length : Int) < 2) = false := decide_eq_false (by omega)
  have d2 : decide (12 < (l.length : Int)) = false := decide_eq_false (by omega)
  obtain ⟨b, off, rfl, hlt, hcs⟩ := Hrow.out (by omega)
  obtain ⟨e0, e1⟩ := hcs 0 l[0] (List.getElem?_eq_getElem (by omega))
  obtain ⟨f0, f1⟩ := hcs 1 l[1] (List.getElem?_eq_getElem (by omega))
  obtain ⟨bm1, bm2⟩ := Hin.out l[0] (List.getElem_mem (by omega))
  obtain ⟨bn1, bn2⟩ := Hin.out l[1] (List.getElem_mem (by omega))
  rw [show off + 0 * 2 = off by omega] at e0
  rw [show off + 0 * 2 + 1 = off + 1 by omega] at e1
  rw [show off + 1 * 2 = off + 2 by omega] at f0
  rw [show off + 1 * 2 + 1 = off + 3 by omega] at f1
  have hq0 : 0 < l.length := by omega
  have hq1 : (1 : Int) < (l.length : Int) := by omega
  obtain ⟨x1, x2, bx, hxf⟩ := addV_form (addL 0 0 l)
  rw [hxf] at hA1 hA2
  generalize l[0] = p0 at *
  generalize l[1] = p1 at *
  obtain ⟨m, i⟩ := p0
  obtain ⟨n, j⟩ := p1
  dsimp only at e0 e1 f0 f1 bm1 bm2 bn1 bn2
  obtain ⟨c1, c2, bc, hcf⟩ := normV_form (timesO m i n j)
  obtain ⟨g1, g2, bg, hgf⟩ := normV_form (overO m i n j)
  obtain ⟨sc, bs, hsf⟩ := scaledV_form (scaledO m i s)
  obtain ⟨Z, hZ, hZe⟩ := u64_20 s
  obtain ⟨rc, br, hrf⟩ := scaledV_form (scaledO n j (Z : Int))
  have hT1 := Lib.hid (fun W => times_walk m i n j W bm1 bm2 bn1 bn2)
  have hT2 := Lib.hid (fun W => rtimes_walk m i n j W bm1 bm2 bn1 bn2)
  have hO1 := Lib.hid (fun W => over_walk m i n j W bm1 bm2 bn1 bn2)
  have hO2 := Lib.hid (fun W => rover_walk m i n j W bm1 bm2 bn1 bn2)
  have hS1 := Lib.hid (fun W => scaled_walk m i s W bm1 bm2)
  have hS2 := Lib.hid (fun W => rscaled_walk m i s W bm1 bm2)
  have hR1 := Lib.hid (fun W => scaled_walk n j (Z : Int) W bn1 bn2)
  have hR2 := Lib.hid (fun W => rscaled_walk n j (Z : Int) W bn1 bn2)
  have hC1 := Lib.hid (fun W => compare_walk m i n j W bm1 bm2 bn1 bn2)
  have hC2 := Lib.hid (fun W => rcmp_walk m i n j W bm1 bm2 bn1 bn2)
  have hN1 := Lib.hid (fun W => neg_walk m i W bm1 bm2)
  have hN2 := Lib.hid (fun W => rneg_walk m i W bm1 bm2)
  rw [hcf] at hT1 hT2
  rw [hgf] at hO1 hO2
  rw [hsf] at hS1 hS2
  rw [hrf] at hR1 hR2
  obtain ⟨oc, hoc⟩ : ∃ oc, oc = cmpO m i n j := ⟨_, rfl⟩
  rw [← hoc] at hC1 hC2
  obtain ⟨n1, n2, hnf⟩ : ∃ a b, negO m i = dv2 a b := ⟨_, _, rfl⟩
  rw [hnf] at hN1 hN2
  clear hxf hcf hgf hsf hrf hcs Hrow bm1 bm2 bn1 bn2 hoc hnf
  go_enter Try.func3, Try.ntmps3
  go_wp2_with fail
  refine (known_calls _).mono ?_; rintro e w1 ⟨rfl, b1⟩
  replace kB := kB.trans (b1.mono kB.size)
  clear b1
  go_upto_region 5 with (fail)
  go_cut [5, 6] (fun s5 s6 wx => ∃ z5 z6, s5 = .pointer (some ⟨z5, 0, none⟩) ∧ s6 = .pointer (some ⟨z6, 0, none⟩) ∧ Below w.heap.size w wx ∧ DecAt wx z5 m i ∧ DecAt wx z6 n j)
  case first =>
    refine wp_region_noPanic ?_
    refine wp_region_held_drew (S := fun X => Below w.heap.size w X) (by kernel_rfl) ?_ (fun hHeld => ?_)
    · exact Below.drew kB
    replace kB := Below.drew kB
    obtain ⟨qw, hcur⟩ : ∃ uu, uu = w1.drew := ⟨_, rfl⟩
    rw [← hcur] at hHeld kB ⊢
    clear hcur
    refine wpAnyH_take (i := 0) (v := ?_) (by simp only [List.getElem?_toArray, List.getElem?_cons_succ, List.getElem?_cons_zero]; rfl) (by kernel_rfl) (by kernel_rfl) (by kernel_rfl) (fun _ _ _ h => h) (Or.inl ⟨by rfl, ?_⟩) hHeld ?_
    rotate_left
    · intro x hSw; first | (go_simp; done) | (go_simp; with_reducible rfl)
    try simp only [Act.put, List.setIfInBounds_toArray, List.set_cons_zero, List.set_cons_succ]
    refine wpAnyH_take (i := 1) (v := ?_) (by simp only [List.getElem?_toArray, List.getElem?_cons_succ, List.getElem?_cons_zero]; rfl) (by kernel_rfl) (by kernel_rfl) (by kernel_rfl) (fun _ _ _ h => h) (Or.inl ⟨by rfl, ?_⟩) hHeld ?_
    rotate_left
    · intro x hSw; first | (go_simp; done) | (go_simp; with_reducible rfl)
    try simp only [Act.put, List.setIfInBounds_toArray, List.set_cons_zero, List.set_cons_succ]
    refine wpAnyH_take (i := 2) (v := ?_) (by simp only [List.getElem?_toArray, List.getElem?_cons_succ, List.getElem?_cons_zero]; rfl) (by kernel_rfl) (by kernel_rfl) (by kernel_rfl) (fun _ _ _ h => h) (Or.inl ⟨by rfl, ?_⟩) hHeld ?_
    rotate_left
    · intro x hSw; (try dsimp only at hSw); have hBw := hSw; have ec0 := (hBw.cell (p := ⟨b, off, none⟩) hlt).trans e0; have ec1 := (hBw.cell (p := ⟨b, off + 1, none⟩) hlt).trans e1; have ec2 := (hBw.cell (p := ⟨b, off + 2, none⟩) hlt).trans f0; have ec3 := (hBw.cell (p := ⟨b, off + 3, none⟩) hlt).trans f1; first | (go_simp; done) | (go_simp; with_reducible rfl)
    try simp only [Act.put, List.setIfInBounds_toArray, List.set_cons_zero, List.set_cons_succ]
    refine wpAnyH_take (i := 3) (v := ?_) (by simp only [List.getElem?_toArray, List.getElem?_cons_succ, List.getElem?_cons_zero]; rfl) (by kernel_rfl) (by kernel_rfl) (by kernel_rfl) (fun _ _ _ h => h) (Or.inl ⟨by rfl, ?_⟩) hHeld ?_
    rotate_left
    · intro x hSw; first | (go_simp; done) | (go_simp; with_reducible rfl)
    try simp only [Act.put, List.setIfInBounds_toArray, List.set_cons_zero, List.set_cons_succ]
    refine wpAnyH_take (i := 4) (v := ?_) (by simp only [List.getElem?_toArray, List.getElem?_cons_succ, List.getElem?_cons_zero]; rfl) (by kernel_rfl) (by kernel_rfl) (by kernel_rfl) (fun _ _ _ h => h) (Or.inl ⟨by rfl, ?_⟩) hHeld ?_
    rotate_left
    · intro x hSw; first | (go_simp; done) | (go_simp; with_reducible rfl)
    try simp only [Act.put, List.setIfInBounds_toArray, List.set_cons_zero, List.set_cons_succ]
    refine wpAnyH_take (i := 5) (v := ?_) (by simp only [List.getElem?_toArray, List.getElem?_cons_succ, List.getElem?_cons_zero]; rfl) (by kernel_rfl) (by kernel_rfl) (by kernel_rfl) (fun _ _ _ h => h) (Or.inl ⟨by rfl, ?_⟩) hHeld ?_
    rotate_left
    · intro x hSw; (try dsimp only at hSw); have hBw := hSw; have ec0 := (hBw.cell (p := ⟨b, off, none⟩) hlt).trans e0; have ec1 := (hBw.cell (p := ⟨b, off + 1, none⟩) hlt).trans e1; have ec2 := (hBw.cell (p := ⟨b, off + 2, none⟩) hlt).trans f0; have ec3 := (hBw.cell (p := ⟨b, off + 3, none⟩) hlt).trans f1; first | (go_simp; done) | (go_simp; with_reducible rfl)
    try simp only [Act.put, List.setIfInBounds_toArray, List.set_cons_zero, List.set_cons_succ]
    refine wpAnyH_ready (rs := [6, 7]) (by kernel_rfl) (by simp) ?_
    refine AllReadyH.cons (by simp only [List.getElem?_toArray, List.getElem?_cons_succ, List.getElem?_cons_zero]; rfl) (fun K hK => ?_) ?_
    · go_simp
      have kd5 := DecAt.new qw 0 0
      have hge_z5 := kB.size
      replace kB := kb_alloc kB (Nat.le_refl _) (.cells #[.int .i64 0, .int .i64 0] 25)
      obtain ⟨z5, hcur⟩ : ∃ uu, uu = qw.heap.size := ⟨_, rfl⟩
      rw [← hcur] at hge_z5 kd5 ⊢
      clear hcur
      obtain ⟨q1, hcur⟩ : ∃ uu, uu = qw.alloc (.cells #[.int .i64 0, .int .i64 0] 25) := ⟨_, rfl⟩
      rw [← hcur] at kB kd5 ⊢
      clear hcur
      refine hK.out _ _ ?_ (fun hHeld => ?_)
      · exact kB
      clear hK K
      try simp only [Act.put, List.setIfInBounds_toArray, List.set_cons_zero, List.set_cons_succ]
      refine wpAnyH_ready (rs := [7]) (by kernel_rfl) (by simp) ?_
      refine AllReadyH.cons (by simp only [List.getElem?_toArray, List.getElem?_cons_succ, List.getElem?_cons_zero]; rfl) (fun K hK => ?_) AllReadyH.nil
      go_simp
      have kd6 := DecAt.new q1 0 0
      have hge_z6 := kB.size
      have hne_z6_d5 := kd5.lt
      replace kd5 := kd5.alloc (.cells #[.int .i64 0, .int .i64 0] 25)
      replace kB := kb_alloc kB (Nat.le_refl _) (.cells #[.int .i64 0, .int .i64 0] 25)
      obtain ⟨z6, hcur⟩ : ∃ uu, uu = q1.heap.size := ⟨_, rfl⟩
      rw [← hcur] at hge_z6 kd6 hne_z6_d5 ⊢
      clear hcur
      obtain ⟨q2, hcur⟩ : ∃ uu, uu = q1.alloc (.cells #[.int .i64 0, .int .i64 0] 25) := ⟨_, rfl⟩
      rw [← hcur] at kB kd5 kd6 ⊢
      clear hcur
      refine hK.out _ _ ?_ (fun hHeld => ?_)
      · exact kB
      clear hK K
      try simp only [Act.put, List.setIfInBounds_toArray, List.set_cons_zero, List.set_cons_succ]
      refine wpAnyH_ready (rs := [8]) (by kernel_rfl) (by simp) ?_
      refine AllReadyH.cons (by simp only [List.getElem?_toArray, List.getElem?_cons_succ, List.getElem?_cons_zero]; rfl) (fun K hK => ?_) AllReadyH.nil
      have sc0 := kd5.c0; have sc1 := kd5.c1; have sf0 := kd5.f0; have sf1 := kd5.f1
      go_simp
      clear sc0 sc1 sf0 sf1
      replace kB := below_put (g := z5) kB (by omega) (m) (i)
      replace kd5 := kd5.put (m) (i)
      replace kd6 := kd6.putOther (g := z5) (by omega) (m) (i)
      unfold putDec at kB kd5 kd6
      refine hK.out _ _ ?_ (fun hHeld => ?_)
      · exact kB
      clear hK K
      try simp only [Act.put, List.setIfInBounds_toArray, List.set_cons_zero, List.set_cons_succ]
      refine wpAnyH_ready (rs := [9]) (by kernel_rfl) (by simp) ?_
      refine AllReadyH.cons (by simp only [List.getElem?_toArray, List.getElem?_cons_succ, List.getElem?_cons_zero]; rfl) (fun K hK => ?_) AllReadyH.nil
      have sc0 := kd6.c0; have sc1 := kd6.c1; have sf0 := kd6.f0; have sf1 := kd6.f1
      go_simp
      clear sc0 sc1 sf0 sf1
      replace kB := below_put (g := z6) kB (by omega) (n) (j)
      replace kd5 := kd5.putOther (g := z6) (by omega) (n) (j)
      replace kd6 := kd6.put (n) (j)
      unfold putDec at kB kd5 kd6
      refine hK.out _ _ ?_ (fun hHeld => ?_)
      · exact kB
      clear hK K
      try simp only [Act.put, List.setIfInBounds_toArray, List.set_cons_zero, List.set_cons_succ]
      refine wpAnyH_done (by kernel_rfl) ?_ _
      refine NoPanic.normal ?_
      go_wp2_with fail
      go_meet
      exact ⟨z5, z6, rfl, rfl, kB, kd5, kd6⟩
    refine AllReadyH.cons (by simp only [List.getElem?_toArray, List.getElem?_cons_succ, List.getElem?_cons_zero]; rfl) (fun K hK => ?_) AllReadyH.nil
    go_simp
    have kd6 := DecAt.new qw 0 0
    have hge_z6 := kB.size
    replace kB := kb_alloc kB (Nat.le_refl _) (.cells #[.int .i64 0, .int .i64 0] 25)
    obtain ⟨z6, hcur⟩ : ∃ uu, uu = qw.heap.size := ⟨_, rfl⟩
    rw [← hcur] at hge_z6 kd6 ⊢
    clear hcur
    obtain ⟨q3, hcur⟩ : ∃ uu, uu = qw.alloc (.cells #[.int .i64 0, .int .i64 0] 25) := ⟨_, rfl⟩
    rw [← hcur] at kB kd6 ⊢
    clear hcur
    refine hK.out _ _ ?_ (fun hHeld => ?_)
    · exact kB
    clear hK K
    try simp only [Act.put, List.setIfInBounds_toArray, List.set_cons_zero, List.set_cons_succ]
    refine wpAnyH_ready (rs := [6]) (by kernel_rfl) (by simp) ?_
    refine AllReadyH.cons (by simp only [List.getElem?_toArray, List.getElem?_cons_succ, List.getElem?_cons_zero]; rfl) (fun K hK => ?_) AllReadyH.nil
    go_simp
    have kd5 := DecAt.new q3 0 0
    have hge_z5 := kB.size
    have hne_z5_d6 := kd6.lt
    replace kd6 := kd6.alloc (.cells #[.int .i64 0, .int .i64 0] 25)
    replace kB := kb_alloc kB (Nat.le_refl _) (.cells #[.int .i64 0, .int .i64 0] 25)
    obtain ⟨z5, hcur⟩ : ∃ uu, uu = q3.heap.size := ⟨_, rfl⟩
    rw [← hcur] at hge_z5 kd5 hne_z5_d6 ⊢
    clear hcur
    obtain ⟨q4, hcur⟩ : ∃ uu, uu = q3.alloc (.cells #[.int .i64 0, .int .i64 0] 25) := ⟨_, rfl⟩
    rw [← hcur] at kB kd6 kd5 ⊢
    clear hcur
    refine hK.out _ _ ?_ (fun hHeld => ?_)
    · exact kB
    clear hK K
    try simp only [Act.put, List.setIfInBounds_toArray, List.set_cons_zero, List.set_cons_succ]
    refine wpAnyH_ready (rs := [8]) (by kernel_rfl) (by simp) ?_
    refine AllReadyH.cons (by simp only [List.getElem?_toArray, List.getElem?_cons_succ, List.getElem?_cons_zero]; rfl) (fun K hK => ?_) AllReadyH.nil
    have sc0 := kd5.c0; have sc1 := kd5.c1; have sf0 := kd5.f0; have sf1 := kd5.f1
    go_simp
    clear sc0 sc1 sf0 sf1
    replace kB := below_put (g := z5) kB (by omega) (m) (i)
    replace kd6 := kd6.putOther (g := z5) (by omega) (m) (i)
    replace kd5 := kd5.put (m) (i)
    unfold putDec at kB kd6 kd5
    refine hK.out _ _ ?_ (fun hHeld => ?_)
    · exact kB
    clear hK K
    try simp only [Act.put, List.setIfInBounds_toArray, List.set_cons_zero, List.set_cons_succ]
    refine wpAnyH_ready (rs := [9]) (by kernel_rfl) (by simp) ?_
    refine AllReadyH.cons (by simp only [List.getElem?_toArray, List.getElem?_cons_succ, List.getElem?_cons_zero]; rfl) (fun K hK => ?_) AllReadyH.nil
    have sc0 := kd6.c0; have sc1 := kd6.c1; have sf0 := kd6.f0; have sf1 := kd6.f1
    go_simp
    clear sc0 sc1 sf0 sf1
    replace kB := below_put (g := z6) kB (by omega) (n) (j)
    replace kd6 := kd6.put (n) (j)
    replace kd5 := kd5.putOther (g := z6) (by omega) (n) (j)
    unfold putDec at kB kd6 kd5
    refine hK.out _ _ ?_ (fun hHeld => ?_)
    · exact kB
    clear hK K
    try simp only [Act.put, List.setIfInBounds_toArray, List.set_cons_zero, List.set_cons_succ]
    refine wpAnyH_done (by kernel_rfl) ?_ _
    refine NoPanic.normal ?_
    go_wp2_with fail
    go_meet
    exact ⟨z5, z6, rfl, rfl, kB, kd5, kd6⟩
  case rest =>
    clear kB
    obtain ⟨z5, z6, rfl, rfl, kB, kd5, kd6⟩ := hcut
    go_wp2_with fail
    refine (hA1.out _ kB).mono ?_; rintro e w1 ⟨rfl, b1⟩
    replace kB := kB.trans (b1.mono kB.size)
    replace kd5 := kd5.below b1
    replace kd6 := kd6.below b1
    clear b1
    replace kB := kb_alloc kB (Nat.le_refl _) (.cells #[.int .i64 x1, .int .i64 x2] 25)
    replace kd5 := kd5.alloc (.cells #[.int .i64 x1, .int .i64 x2] 25)
    replace kd6 := kd6.alloc (.cells #[.int .i64 x1, .int .i64 x2] 25)
    have kd7 := DecAt.new w1 x1 x2
    go_upto_region 7 with (fail)
    obtain ⟨W2, hcur⟩ : ∃ uu, uu = w1.alloc (.cells #[.int .i64 x1, .int .i64 x2] 25) := ⟨_, rfl⟩
    rw [← hcur] at kB kd5 kd6 kd7 ⊢
    clear hcur
    obtain ⟨z7, hcur⟩ : ∃ uu, uu = w1.heap.size := ⟨_, rfl⟩
    rw [← hcur] at kd7 ⊢
    clear hcur
    go_wp2_with fail
    refine (hA2.out _ kB).mono ?_; rintro e w3 ⟨rfl, b3⟩
    replace kB := kB.trans (b3.mono kB.size)
    replace kd5 := kd5.below b3
    replace kd6 := kd6.below b3
    replace kd7 := kd7.below b3
    clear b3
    replace kB := kb_alloc kB (Nat.le_refl _) (.cells #[.int .i64 x1, .int .i64 x2] 25)
    replace kd5 := kd5.alloc (.cells #[.int .i64 x1, .int .i64 x2] 25)
    replace kd6 := kd6.alloc (.cells #[.int .i64 x1, .int .i64 x2] 25)
    replace kd7 := kd7.alloc (.cells #[.int .i64 x1, .int .i64 x2] 25)
    have kd9 := DecAt.new w3 x1 x2
    go_upto_region 8 with (fail)
    obtain ⟨W4, hcur⟩ : ∃ uu, uu = w3.alloc (.cells #[.int .i64 x1, .int .i64 x2] 25) := ⟨_, rfl⟩
    rw [← hcur] at kB kd5 kd6 kd7 kd9 ⊢
    clear hcur
    obtain ⟨z9, hcur⟩ : ∃ uu, uu = w3.heap.size := ⟨_, rfl⟩
    rw [← hcur] at kd9 ⊢
    clear hcur
    have c0d5 := kd5.c0; have c1d5 := kd5.c1; have c0d6 := kd6.c0; have c1d6 := kd6.c1
    go_wp2_with fail
    clear c0d5 c1d5 c0d6 c1d6
    refine (hT1.out _).mono ?_; rintro e w5 ⟨rfl, b5⟩
    replace kB := kB.trans (b5.mono kB.size)
    replace kd5 := kd5.below b5
    replace kd6 := kd6.below b5
    replace kd7 := kd7.below b5
    replace kd9 := kd9.below b5
    clear b5
    replace kB := kb_alloc kB (Nat.le_refl _) (.cells #[.int .i64 c1, .int .i64 c2] 25)
    replace kd5 := kd5.alloc (.cells #[.int .i64 c1, .int .i64 c2] 25)
    replace kd6 := kd6.alloc (.cells #[.int .i64 c1, .int .i64 c2] 25)
    replace kd7 := kd7.alloc (.cells #[.int .i64 c1, .int .i64 c2] 25)
    replace kd9 := kd9.alloc (.cells #[.int .i64 c1, .int .i64 c2] 25)
    have kd11 := DecAt.new w5 c1 c2
    go_upto_region 9 with (fail)
    obtain ⟨W6, hcur⟩ : ∃ uu, uu = w5.alloc (.cells #[.int .i64 c1, .int .i64 c2] 25) := ⟨_, rfl⟩
    rw [← hcur] at kB kd5 kd6 kd7 kd9 kd11 ⊢
    clear hcur
    obtain ⟨z11, hcur⟩ : ∃ uu, uu = w5.heap.size := ⟨_, rfl⟩
    rw [← hcur] at kd11 ⊢
    clear hcur
    have c0d5 := kd5.c0; have c1d5 := kd5.c1; have c0d6 := kd6.c0; have c1d6 := kd6.c1
    go_wp2_with fail
    clear c0d5 c1d5 c0d6 c1d6
    refine (hT2.out _).mono ?_; rintro e w7 ⟨rfl, b7⟩
    replace kB := kB.trans (b7.mono kB.size)
    replace kd5 := kd5.below b7
    replace kd6 := kd6.below b7
    replace kd7 := kd7.below b7
    replace kd9 := kd9.below b7
    replace kd11 := kd11.below b7
    clear b7
    replace kB := kb_alloc kB (Nat.le_refl _) (.cells #[.int .i64 c1, .int .i64 c2] 25)
    replace kd5 := kd5.alloc (.cells #[.int .i64 c1, .int .i64 c2] 25)
    replace kd6 := kd6.alloc (.cells #[.int .i64 c1, .int .i64 c2] 25)
    replace kd7 := kd7.alloc (.cells #[.int .i64 c1, .int .i64 c2] 25)
    replace kd9 := kd9.alloc (.cells #[.int .i64 c1, .int .i64 c2] 25)
    replace kd11 := kd11.alloc (.cells #[.int .i64 c1, .int .i64 c2] 25)
    have kd13 := DecAt.new w7 c1 c2
    go_upto_region 10 with (fail)
    obtain ⟨W8, hcur⟩ : ∃ uu, uu = w7.alloc (.cells #[.int .i64 c1, .int .i64 c2] 25) := ⟨_, rfl⟩
    rw [← hcur] at kB kd5 kd6 kd7 kd9 kd11 kd13 ⊢
    clear hcur
    obtain ⟨z13, hcur⟩ : ∃ uu, uu = w7.heap.size := ⟨_, rfl⟩
    rw [← hcur] at kd13 ⊢
    clear hcur
    have c0d5 := kd5.c0; have c1d5 := kd5.c1; have c0d6 := kd6.c0; have c1d6 := kd6.c1
    go_wp2_with fail
    clear c0d5 c1d5 c0d6 c1d6
    refine (hO1.out _).mono ?_; rintro e w9 ⟨rfl, b9⟩
    replace kB := kB.trans (b9.mono kB.size)
    replace kd5 := kd5.below b9
    replace kd6 := kd6.below b9
    replace kd7 := kd7.below b9
    replace kd9 := kd9.below b9
    replace kd11 := kd11.below b9
    replace kd13 := kd13.below b9
    clear b9
    replace kB := kb_alloc kB (Nat.le_refl _) (.cells #[.int .i64 g1, .int .i64 g2] 25)
    replace kd5 := kd5.alloc (.cells #[.int .i64 g1, .int .i64 g2] 25)
    replace kd6 := kd6.alloc (.cells #[.int .i64 g1, .int .i64 g2] 25)
    replace kd7 := kd7.alloc (.cells #[.int .i64 g1, .int .i64 g2] 25)
    replace kd9 := kd9.alloc (.cells #[.int .i64 g1, .int .i64 g2] 25)
    replace kd11 := kd11.alloc (.cells #[.int .i64 g1, .int .i64 g2] 25)
    replace kd13 := kd13.alloc (.cells #[.int .i64 g1, .int .i64 g2] 25)
    have kd15 := DecAt.new w9 g1 g2
    go_upto_region 11 with (fail)
    obtain ⟨W10, hcur⟩ : ∃ uu, uu = w9.alloc (.cells #[.int .i64 g1, .int .i64 g2] 25) := ⟨_, rfl⟩
    rw [← hcur] at kB kd5 kd6 kd7 kd9 kd11 kd13 kd15 ⊢
    clear hcur
    obtain ⟨z15, hcur⟩ : ∃ uu, uu = w9.heap.size := ⟨_, rfl⟩
    rw [← hcur] at kd15 ⊢
    clear hcur
    have c0d5 := kd5.c0; have c1d5 := kd5.c1; have c0d6 := kd6.c0; have c1d6 := kd6.c1
    go_wp2_with fail
    clear c0d5 c1d5 c0d6 c1d6
    refine (hO2.out _).mono ?_; rintro e w11 ⟨rfl, b11⟩
    replace kB := kB.trans (b11.mono kB.size)
    replace kd5 := kd5.below b11
    replace kd6 := kd6.below b11
    replace kd7 := kd7.below b11
    replace kd9 := kd9.below b11
    replace kd11 := kd11.below b11
    replace kd13 := kd13.below b11
    replace kd15 := kd15.below b11
    clear b11
    replace kB := kb_alloc kB (Nat.le_refl _) (.cells #[.int .i64 g1, .int .i64 g2] 25)
    replace kd5 := kd5.alloc (.cells #[.int .i64 g1, .int .i64 g2] 25)
    replace kd6 := kd6.alloc (.cells #[.int .i64 g1, .int .i64 g2] 25)
    replace kd7 := kd7.alloc (.cells #[.int .i64 g1, .int .i64 g2] 25)
    replace kd9 := kd9.alloc (.cells #[.int .i64 g1, .int .i64 g2] 25)
    replace kd11 := kd11.alloc (.cells #[.int .i64 g1, .int .i64 g2] 25)
    replace kd13 := kd13.alloc (.cells #[.int .i64 g1, .int .i64 g2] 25)
    replace kd15 := kd15.alloc (.cells #[.int .i64 g1, .int .i64 g2] 25)
    have kd17 := DecAt.new w11 g1 g2
    go_upto_region 12 with (fail)
    obtain ⟨W12, hcur⟩ : ∃ uu, uu = w11.alloc (.cells #[.int .i64 g1, .int .i64 g2] 25) := ⟨_, rfl⟩
    rw [← hcur] at kB kd5 kd6 kd7 kd9 kd11 kd13 kd15 kd17 ⊢
    clear hcur
    obtain ⟨z17, hcur⟩ : ∃ uu, uu = w11.heap.size := ⟨_, rfl⟩
    rw [← hcur] at kd17 ⊢
    clear hcur
    have c0d5 := kd5.c0; have c1d5 := kd5.c1
    go_wp2_with fail
    clear c0d5 c1d5
    refine (hS1.out _).mono ?_; rintro e w13 ⟨rfl, b13⟩
    replace kB := kB.trans (b13.mono kB.size)
    replace kd5 := kd5.below b13
    replace kd6 := kd6.below b13
    replace kd7 := kd7.below b13
    replace kd9 := kd9.below b13
    replace kd11 := kd11.below b13
    replace kd13 := kd13.below b13
    replace kd15 := kd15.below b13
    replace kd17 := kd17.below b13
    clear b13
    have c0d5 := kd5.c0; have c1d5 := kd5.c1
    go_wp2_with fail
    clear c0d5 c1d5
    refine (hS2.out _).mono ?_; rintro e w14 ⟨rfl, b14⟩
    replace kB := kB.trans (b14.mono kB.size)
    replace kd5 := kd5.below b14
    replace kd6 := kd6.below b14
    replace kd7 := kd7.below b14
    replace kd9 := kd9.below b14
    replace kd11 := kd11.below b14
    replace kd13 := kd13.below b14
    replace kd15 := kd15.below b14
    replace kd17 := kd17.below b14
    clear b14
    have c0d6 := kd6.c0; have c1d6 := kd6.c1
    go_wp2_with fail
    clear c0d6 c1d6
    refine (hR1.out _).mono ?_; rintro e w15 ⟨rfl, b15⟩
    replace kB := kB.trans (b15.mono kB.size)
    replace kd5 := kd5.below b15
    replace kd6 := kd6.below b15
    replace kd7 := kd7.below b15
    replace kd9 := kd9.below b15
    replace kd11 := kd11.below b15
    replace kd13 := kd13.below b15
    replace kd15 := kd15.below b15
    replace kd17 := kd17.below b15
    clear b15
    have c0d6 := kd6.c0; have c1d6 := kd6.c1
    go_wp2_with fail
    clear c0d6 c1d6
    refine (hR2.out _).mono ?_; rintro e w16 ⟨rfl, b16⟩
    replace kB := kB.trans (b16.mono kB.size)
    replace kd5 := kd5.below b16
    replace kd6 := kd6.below b16
    replace kd7 := kd7.below b16
    replace kd9 := kd9.below b16
    replace kd11 := kd11.below b16
    replace kd13 := kd13.below b16
    replace kd15 := kd15.below b16
    replace kd17 := kd17.below b16
    clear b16
    go_upto_region 16 with (fail)
    try simp only [List.append_eq, List.cons_append, List.nil_append]
    refine wp_region_noPanic ?_
    refine wp_region_held_drew (S := fun X => Below w.heap.size w X ∧ DecAt X z5 m i ∧ DecAt X z6 n j ∧ DecAt X z7 x1 x2 ∧ DecAt X z9 x1 x2 ∧ DecAt X z11 c1 c2 ∧ DecAt X z13 c1 c2 ∧ DecAt X z15 g1 g2 ∧ DecAt X z17 g1 g2) (by kernel_rfl) ?_ (fun hHeld => ?_)
    · exact ⟨Below.drew kB, DecAt.drew kd5, DecAt.drew kd6, DecAt.drew kd7, DecAt.drew kd9, DecAt.drew kd11, DecAt.drew kd13, DecAt.drew kd15, DecAt.drew kd17⟩
    replace kB := Below.drew kB
    replace kd5 := DecAt.drew kd5
    replace kd6 := DecAt.drew kd6
    replace kd7 := DecAt.drew kd7
    replace kd9 := DecAt.drew kd9
    replace kd11 := DecAt.drew kd11
    replace kd13 := DecAt.drew kd13
    replace kd15 := DecAt.drew kd15
    replace kd17 := DecAt.drew kd17
    obtain ⟨qw, hcur⟩ : ∃ uu, uu = w16.drew := ⟨_, rfl⟩
    rw [← hcur] at hHeld kB kd5 kd6 kd7 kd9 kd11 kd13 kd15 kd17 ⊢
    clear hcur
    refine wpAnyH_take (i := 0) (v := ?_) (by simp only [List.getElem?_toArray, List.getElem?_cons_succ, List.getElem?_cons_zero]; rfl) (by kernel_rfl) (by kernel_rfl) (by kernel_rfl) (fun _ _ _ h => h) (Or.inl ⟨by rfl, ?_⟩) hHeld ?_
    rotate_left
    · intro x hSw; (try dsimp only at hSw); obtain ⟨_, hd5, hd6, hd7, hd9, hd11, hd13, hd15, hd17⟩ := hSw; have c0 := hd7.c0; have c1 := hd7.c1; clear hd5 hd6 hd7 hd9 hd11 hd13 hd15 hd17; first | (go_simp; done) | (go_simp; with_reducible rfl)
    try simp only [Act.put, List.setIfInBounds_toArray, List.set_cons_zero, List.set_cons_succ]
    refine wpAnyH_take (i := 1) (v := ?_) (by simp only [List.getElem?_toArray, List.getElem?_cons_succ, List.getElem?_cons_zero]; rfl) (by kernel_rfl) (by kernel_rfl) (by kernel_rfl) (fun _ _ _ h => h) (Or.inl ⟨by rfl, ?_⟩) hHeld ?_
    rotate_left
    · intro x hSw; (try dsimp only at hSw); obtain ⟨_, hd5, hd6, hd7, hd9, hd11, hd13, hd15, hd17⟩ := hSw; have c0 := hd9.c0; have c1 := hd9.c1; clear hd5 hd6 hd7 hd9 hd11 hd13 hd15 hd17; first | (go_simp; done) | (go_simp; with_reducible rfl)
    try simp only [Act.put, List.setIfInBounds_toArray, List.set_cons_zero, List.set_cons_succ]
    refine wpAnyH_take (i := 2) (v := ?_) (by simp only [List.getElem?_toArray, List.getElem?_cons_succ, List.getElem?_cons_zero]; rfl) (by kernel_rfl) (by kernel_rfl) (by kernel_rfl) (fun _ _ _ h => h) (Or.inl ⟨by rfl, ?_⟩) hHeld ?_
    rotate_left
    · intro x hSw; first | (go_simp; done) | (go_simp; with_reducible rfl)
    try simp only [Act.put, List.setIfInBounds_toArray, List.set_cons_zero, List.set_cons_succ]
    refine wpAnyH_take (i := 3) (v := ?_) (by simp only [List.getElem?_toArray, List.getElem?_cons_succ, List.getElem?_cons_zero]; rfl) (by kernel_rfl) (by kernel_rfl) (by kernel_rfl) (fun _ _ _ h => h) (Or.inl ⟨by rfl, ?_⟩) hHeld ?_
    rotate_left
    · intro x hSw; first | (go_simp; done) | (go_simp; with_reducible rfl)
    try simp only [Act.put, List.setIfInBounds_toArray, List.set_cons_zero, List.set_cons_succ]
    refine wpAnyH_take (i := 4) (v := ?_) (by simp only [List.getElem?_toArray, List.getElem?_cons_succ, List.getElem?_cons_zero]; rfl) (by kernel_rfl) (by kernel_rfl) (by kernel_rfl) (fun _ _ _ h => h) (Or.inl ⟨by rfl, ?_⟩) hHeld ?_
    rotate_left
    · intro x hSw; first | (go_simp; done) | (go_simp; with_reducible rfl)
    try simp only [Act.put, List.setIfInBounds_toArray, List.set_cons_zero, List.set_cons_succ]
    refine wpAnyH_take (i := 5) (v := ?_) (by simp only [List.getElem?_toArray, List.getElem?_cons_succ, List.getElem?_cons_zero]; rfl) (by kernel_rfl) (by kernel_rfl) (by kernel_rfl) (fun _ _ _ h => h) (Or.inl ⟨by rfl, ?_⟩) hHeld ?_
    rotate_left
    · intro x hSw; first | (go_simp; done) | (go_simp; with_reducible rfl)
    try simp only [Act.put, List.setIfInBounds_toArray, List.set_cons_zero, List.set_cons_succ]
    refine wpAnyH_take (i := 6) (v := ?_) (by simp only [List.getElem?_toArray, List.getElem?_cons_succ, List.getElem?_cons_zero]; rfl) (by kernel_rfl) (by kernel_rfl) (by kernel_rfl) (fun _ _ _ h => h) (Or.inl ⟨by rfl, ?_⟩) hHeld ?_
    rotate_left
    · intro x hSw; first | (go_simp; done) | (go_simp; with_reducible rfl)
    try simp only [Act.put, List.setIfInBounds_toArray, List.set_cons_zero, List.set_cons_succ]
    refine wpAnyH_take (i := 7) (v := ?_) (by simp only [List.getElem?_toArray, List.getElem?_cons_succ, List.getElem?_cons_zero]; rfl) (by kernel_rfl) (by kernel_rfl) (by kernel_rfl) (fun _ _ _ h => h) (Or.inl ⟨by rfl, ?_⟩) hHeld ?_
    rotate_left
    · intro x hSw; first | (go_simp; done) | (go_simp; with_reducible rfl)
    try simp only [Act.put, List.setIfInBounds_toArray, List.set_cons_zero, List.set_cons_succ]
    refine wpAnyH_take (i := 8) (v := ?_) (by simp only [List.getElem?_toArray, List.getElem?_cons_succ, List.getElem?_cons_zero]; rfl) (by kernel_rfl) (by kernel_rfl) (by kernel_rfl) (fun _ _ _ h => h) (Or.inl ⟨by rfl, ?_⟩) hHeld ?_
    rotate_left
    · intro x hSw; first | (go_simp; done) | (go_simp; with_reducible rfl)
    try simp only [Act.put, List.setIfInBounds_toArray, List.set_cons_zero, List.set_cons_succ]
    refine wpAnyH_take (i := 9) (v := ?_) (by simp only [List.getElem?_toArray, List.getElem?_cons_succ, List.getElem?_cons_zero]; rfl) (by kernel_rfl) (by kernel_rfl) (by kernel_rfl) (fun _ _ _ h => h) (Or.inl ⟨by rfl, ?_⟩) hHeld ?_
    rotate_left
    · intro x hSw; (try dsimp only at hSw); obtain ⟨_, hd5, hd6, hd7, hd9, hd11, hd13, hd15, hd17⟩ := hSw; have c0 := hd11.c0; have c1 := hd11.c1; clear hd5 hd6 hd7 hd9 hd11 hd13 hd15 hd17; first | (go_simp; done) | (go_simp; with_reducible rfl)
    try simp only [Act.put, List.setIfInBounds_toArray, List.set_cons_zero, List.set_cons_succ]
    refine wpAnyH_take (i := 10) (v := ?_) (by simp only [List.getElem?_toArray, List.getElem?_cons_succ, List.getElem?_cons_zero]; rfl) (by kernel_rfl) (by kernel_rfl) (by kernel_rfl) (fun _ _ _ h => h) (Or.inl ⟨by rfl, ?_⟩) hHeld ?_
    rotate_left
    · intro x hSw; (try dsimp only at hSw); obtain ⟨_, hd5, hd6, hd7, hd9, hd11, hd13, hd15, hd17⟩ := hSw; have c0 := hd13.c0; have c1 := hd13.c1; clear hd5 hd6 hd7 hd9 hd11 hd13 hd15 hd17; first | (go_simp; done) | (go_simp; with_reducible rfl)
    try simp only [Act.put, List.setIfInBounds_toArray, List.set_cons_zero, List.set_cons_succ]
    refine wpAnyH_take (i := 11) (v := ?_) (by simp only [List.getElem?_toArray, List.getElem?_cons_succ, List.getElem?_cons_zero]; rfl) (by kernel_rfl) (by kernel_rfl) (by kernel_rfl) (fun _ _ _ h => h) (Or.inl ⟨by rfl, ?_⟩) hHeld ?_
    rotate_left
    · intro x hSw; first | (go_simp; done) | (go_simp; with_reducible rfl)
    try simp only [Act.put, List.setIfInBounds_toArray, List.set_cons_zero, List.set_cons_succ]
    refine wpAnyH_take (i := 12) (v := ?_) (by simp only [List.getElem?_toArray, List.getElem?_cons_succ, List.getElem?_cons_zero]; rfl) (by kernel_rfl) (by kernel_rfl) (by kernel_rfl) (fun _ _ _ h => h) (Or.inl ⟨by rfl, ?_⟩) hHeld ?_
    rotate_left
    · intro x hSw; first | (go_simp; done) | (go_simp; with_reducible rfl)
    try simp only [Act.put, List.setIfInBounds_toArray, List.set_cons_zero, List.set_cons_succ]
    refine wpAnyH_take (i := 13) (v := ?_) (by simp only [List.getElem?_toArray, List.getElem?_cons_succ, List.getElem?_cons_zero]; rfl) (by kernel_rfl) (by kernel_rfl) (by kernel_rfl) (fun _ _ _ h => h) (Or.inl ⟨by rfl, ?_⟩) hHeld ?_
    rotate_left
    · intro x hSw; first | (go_simp; done) | (go_simp; with_reducible rfl)
    try simp only [Act.put, List.setIfInBounds_toArray, List.set_cons_zero, List.set_cons_succ]
    refine wpAnyH_take (i := 14) (v := ?_) (by simp only [List.getElem?_toArray, List.getElem?_cons_succ, List.getElem?_cons_zero]; rfl) (by kernel_rfl) (by kernel_rfl) (by kernel_rfl) (fun _ _ _ h => h) (Or.inl ⟨by rfl, ?_⟩) hHeld ?_
    rotate_left
    · intro x hSw; first | (go_simp; done) | (go_simp; with_reducible rfl)
    try simp only [Act.put, List.setIfInBounds_toArray, List.set_cons_zero, List.set_cons_succ]
    refine wpAnyH_take (i := 15) (v := ?_) (by simp only [List.getElem?_toArray, List.getElem?_cons_succ, List.getElem?_cons_zero]; rfl) (by kernel_rfl) (by kernel_rfl) (by kernel_rfl) (fun _ _ _ h => h) (Or.inl ⟨by rfl, ?_⟩) hHeld ?_
    rotate_left
    · intro x hSw; first | (go_simp; done) | (go_simp; with_reducible rfl)
    try simp only [Act.put, List.setIfInBounds_toArray, List.set_cons_zero, List.set_cons_succ]
    refine wpAnyH_take (i := 16) (v := ?_) (by simp only [List.getElem?_toArray, List.getElem?_cons_succ, List.getElem?_cons_zero]; rfl) (by kernel_rfl) (by kernel_rfl) (by kernel_rfl) (fun _ _ _ h => h) (Or.inl ⟨by rfl, ?_⟩) hHeld ?_
    rotate_left
    · intro x hSw; first | (go_simp; done) | (go_simp; with_reducible rfl)
    try simp only [Act.put, List.setIfInBounds_toArray, List.set_cons_zero, List.set_cons_succ]
    refine wpAnyH_take (i := 17) (v := ?_) (by simp only [List.getElem?_toArray, List.getElem?_cons_succ, List.getElem?_cons_zero]; rfl) (by kernel_rfl) (by kernel_rfl) (by kernel_rfl) (fun _ _ _ h => h) (Or.inl ⟨by rfl, ?_⟩) hHeld ?_
    rotate_left
    · intro x hSw; first | (go_simp; done) | (go_simp; with_reducible rfl)
    try simp only [Act.put, List.setIfInBounds_toArray, List.set_cons_zero, List.set_cons_succ]
    refine wpAnyH_take (i := 18) (v := ?_) (by simp only [List.getElem?_toArray, List.getElem?_cons_succ, List.getElem?_cons_zero]; rfl) (by kernel_rfl) (by kernel_rfl) (by kernel_rfl) (fun _ _ _ h => h) (Or.inl ⟨by rfl, ?_⟩) hHeld ?_
    rotate_left
    · intro x hSw; first | (go_simp; done) | (go_simp; with_reducible rfl)
    try simp only [Act.put, List.setIfInBounds_toArray, List.set_cons_zero, List.set_cons_succ]
    refine wpAnyH_take (i := 19) (v := ?_) (by simp only [List.getElem?_toArray, List.getElem?_cons_succ, List.getElem?_cons_zero]; rfl) (by kernel_rfl) (by kernel_rfl) (by kernel_rfl) (fun _ _ _ h => h) (Or.inl ⟨by rfl, ?_⟩) hHeld ?_
    rotate_left
    · intro x hSw; (try dsimp only at hSw); obtain ⟨_, hd5, hd6, hd7, hd9, hd11, hd13, hd15, hd17⟩ := hSw; have c0 := hd15.c0; have c1 := hd15.c1; clear hd5 hd6 hd7 hd9 hd11 hd13 hd15 hd17; first | (go_simp; done) | (go_simp; with_reducible rfl)
    try simp only [Act.put, List.setIfInBounds_toArray, List.set_cons_zero, List.set_cons_succ]
    refine wpAnyH_take (i := 20) (v := ?_) (by simp only [List.getElem?_toArray, List.getElem?_cons_succ, List.getElem?_cons_zero]; rfl) (by kernel_rfl) (by kernel_rfl) (by kernel_rfl) (fun _ _ _ h => h) (Or.inl ⟨by rfl, ?_⟩) hHeld ?_
    rotate_left
    · intro x hSw; (try dsimp only at hSw); obtain ⟨_, hd5, hd6, hd7, hd9, hd11, hd13, hd15, hd17⟩ := hSw; have c0 := hd17.c0; have c1 := hd17.c1; clear hd5 hd6 hd7 hd9 hd11 hd13 hd15 hd17; first | (go_simp; done) | (go_simp; with_reducible rfl)
    try simp only [Act.put, List.setIfInBounds_toArray, List.set_cons_zero, List.set_cons_succ]
    refine wpAnyH_take (i := 21) (v := ?_) (by simp only [List.getElem?_toArray, List.getElem?_cons_succ, List.getElem?_cons_zero]; rfl) (by kernel_rfl) (by kernel_rfl) (by kernel_rfl) (fun _ _ _ h => h) (Or.inl ⟨by rfl, ?_⟩) hHeld ?_
    rotate_left
    · intro x hSw; first | (go_simp; done) | (go_simp; with_reducible rfl)
    try simp only [Act.put, List.setIfInBounds_toArray, List.set_cons_zero, List.set_cons_succ]
    refine wpAnyH_take (i := 22) (v := ?_) (by simp only [List.getElem?_toArray, List.getElem?_cons_succ, List.getElem?_cons_zero]; rfl) (by kernel_rfl) (by kernel_rfl) (by kernel_rfl) (fun _ _ _ h => h) (Or.inl ⟨by rfl, ?_⟩) hHeld ?_
    rotate_left
    · intro x hSw; first | (go_simp; done) | (go_simp; with_reducible rfl)
    try simp only [Act.put, List.setIfInBounds_toArray, List.set_cons_zero, List.set_cons_succ]
    refine wpAnyH_take (i := 23) (v := ?_) (by simp only [List.getElem?_toArray, List.getElem?_cons_succ, List.getElem?_cons_zero]; rfl) (by kernel_rfl) (by kernel_rfl) (by kernel_rfl) (fun _ _ _ h => h) (Or.inl ⟨by rfl, ?_⟩) hHeld ?_
    rotate_left
    · intro x hSw; first | (go_simp; done) | (go_simp; with_reducible rfl)
    try simp only [Act.put, List.setIfInBounds_toArray, List.set_cons_zero, List.set_cons_succ]
    refine wpAnyH_take (i := 24) (v := ?_) (by simp only [List.getElem?_toArray, List.getElem?_cons_succ, List.getElem?_cons_zero]; rfl) (by kernel_rfl) (by kernel_rfl) (by kernel_rfl) (fun _ _ _ h => h) (Or.inl ⟨by rfl, ?_⟩) hHeld ?_
    rotate_left
    · intro x hSw; first | (go_simp; done) | (go_simp; with_reducible rfl)
    try simp only [Act.put, List.setIfInBounds_toArray, List.set_cons_zero, List.set_cons_succ]
    refine wpAnyH_take (i := 25) (v := ?_) (by simp only [List.getElem?_toArray, List.getElem?_cons_succ, List.getElem?_cons_zero]; rfl) (by kernel_rfl) (by kernel_rfl) (by kernel_rfl) (fun _ _ _ h => h) (Or.inl ⟨by rfl, ?_⟩) hHeld ?_
    rotate_left
    · intro x hSw; first | (go_simp; done) | (go_simp; with_reducible rfl)
    try simp only [Act.put, List.setIfInBounds_toArray, List.set_cons_zero, List.set_cons_succ]
    refine wpAnyH_take (i := 26) (v := ?_) (by simp only [List.getElem?_toArray, List.getElem?_cons_succ, List.getElem?_cons_zero]; rfl) (by kernel_rfl) (by kernel_rfl) (by kernel_rfl) (fun _ _ _ h => h) (Or.inl ⟨by rfl, ?_⟩) hHeld ?_
    rotate_left
    · intro x hSw; first | (go_simp; done) | (go_simp; with_reducible rfl)
    try simp only [Act.put, List.setIfInBounds_toArray, List.set_cons_zero, List.set_cons_succ]
    refine wpAnyH_take (i := 27) (v := ?_) (by simp only [List.getElem?_toArray, List.getElem?_cons_succ, List.getElem?_cons_zero]; rfl) (by kernel_rfl) (by kernel_rfl) (by kernel_rfl) (fun _ _ _ h => h) (Or.inl ⟨by rfl, ?_⟩) hHeld ?_
    rotate_left
    · intro x hSw; first | (go_simp; done) | (go_simp; with_reducible rfl)
    try simp only [Act.put, List.setIfInBounds_toArray, List.set_cons_zero, List.set_cons_succ]
    refine wpAnyH_take (i := 28) (v := ?_) (by simp only [List.getElem?_toArray, List.getElem?_cons_succ, List.getElem?_cons_zero]; rfl) (by kernel_rfl) (by kernel_rfl) (by kernel_rfl) (fun _ _ _ h => h) (Or.inl ⟨by rfl, ?_⟩) hHeld ?_
    rotate_left
    · intro x hSw; first | (go_simp; done) | (go_simp; with_reducible rfl)
    try simp only [Act.put, List.setIfInBounds_toArray, List.set_cons_zero, List.set_cons_succ]
    refine wpAnyH_take (i := 29) (v := ?_) (by simp only [List.getElem?_toArray, List.getElem?_cons_succ, List.getElem?_cons_zero]; rfl) (by kernel_rfl) (by kernel_rfl) (by kernel_rfl) (fun _ _ _ h => h) (Or.inl ⟨by rfl, ?_⟩) hHeld ?_
    rotate_left
    · intro x hSw; first | (go_simp; done) | (go_simp; with_reducible rfl)
    try simp only [Act.put, List.setIfInBounds_toArray, List.set_cons_zero, List.set_cons_succ]
    refine wpAnyH_take (i := 30) (v := ?_) (by simp only [List.getElem?_toArray, List.getElem?_cons_succ, List.getElem?_cons_zero]; rfl) (by kernel_rfl) (by kernel_rfl) (by kernel_rfl) (fun _ _ _ h => h) (Or.inl ⟨by rfl, ?_⟩) hHeld ?_
    rotate_left
    · intro x hSw; first | (go_simp; done) | (go_simp; with_reducible rfl)
    try simp only [Act.put, List.setIfInBounds_toArray, List.set_cons_zero, List.set_cons_succ]
    refine wpAnyH_take (i := 31) (v := ?_) (by simp only [List.getElem?_toArray, List.getElem?_cons_succ, List.getElem?_cons_zero]; rfl) (by kernel_rfl) (by kernel_rfl) (by kernel_rfl) (fun _ _ _ h => h) (Or.inl ⟨by rfl, ?_⟩) hHeld ?_
    rotate_left
    · intro x hSw; first | (go_simp; done) | (go_simp; with_reducible rfl)
    try simp only [Act.put, List.setIfInBounds_toArray, List.set_cons_zero, List.set_cons_succ]
    refine wpAnyH_take (i := 32) (v := ?_) (by simp only [List.getElem?_toArray, List.getElem?_cons_succ, List.getElem?_cons_zero]; rfl) (by kernel_rfl) (by kernel_rfl) (by kernel_rfl) (fun _ _ _ h => h) (Or.inl ⟨by rfl, ?_⟩) hHeld ?_
    rotate_left
    · intro x hSw; first | (go_simp; done) | (go_simp; with_reducible rfl)
    try simp only [Act.put, List.setIfInBounds_toArray, List.set_cons_zero, List.set_cons_succ]
    refine wpAnyH_take (i := 33) (v := ?_) (by simp only [List.getElem?_toArray, List.getElem?_cons_succ, List.getElem?_cons_zero]; rfl) (by kernel_rfl) (by kernel_rfl) (by kernel_rfl) (fun _ _ _ h => h) (Or.inl ⟨by rfl, ?_⟩) hHeld ?_
    rotate_left
    · intro x hSw; first | (go_simp; done) | (go_simp; with_reducible rfl)
    try simp only [Act.put, List.setIfInBounds_toArray, List.set_cons_zero, List.set_cons_succ]
    refine wpAnyH_take (i := 34) (v := ?_) (by simp only [List.getElem?_toArray, List.getElem?_cons_succ, List.getElem?_cons_zero]; rfl) (by kernel_rfl) (by kernel_rfl) (by kernel_rfl) (fun _ _ _ h => h) (Or.inl ⟨by rfl, ?_⟩) hHeld ?_
    rotate_left
    · intro x hSw; first | (go_simp; done) | (go_simp; with_reducible rfl)
    try simp only [Act.put, List.setIfInBounds_toArray, List.set_cons_zero, List.set_cons_succ]
    refine wpAnyH_take (i := 35) (v := ?_) (by simp only [List.getElem?_toArray, List.getElem?_cons_succ, List.getElem?_cons_zero]; rfl) (by kernel_rfl) (by kernel_rfl) (by kernel_rfl) (fun _ _ _ h => h) (Or.inl ⟨by rfl, ?_⟩) hHeld ?_
    rotate_left
    · intro x hSw; first | (go_simp; done) | (go_simp; with_reducible rfl)
    try simp only [Act.put, List.setIfInBounds_toArray, List.set_cons_zero, List.set_cons_succ]
    refine wpAnyH_take (i := 36) (v := ?_) (by simp only [List.getElem?_toArray, List.getElem?_cons_succ, List.getElem?_cons_zero]; rfl) (by kernel_rfl) (by kernel_rfl) (by kernel_rfl) (fun _ _ _ h => h) (Or.inl ⟨by rfl, ?_⟩) hHeld ?_
    rotate_left
    · intro x hSw; first | (go_simp; done) | (go_simp; with_reducible rfl)
    try simp only [Act.put, List.setIfInBounds_toArray, List.set_cons_zero, List.set_cons_succ]
    refine wpAnyH_take (i := 37) (v := ?_) (by simp only [List.getElem?_toArray, List.getElem?_cons_succ, List.getElem?_cons_zero]; rfl) (by kernel_rfl) (by kernel_rfl) (by kernel_rfl) (fun _ _ _ h => h) (Or.inl ⟨by rfl, ?_⟩) hHeld ?_
    rotate_left
    · intro x hSw; first | (go_simp; done) | (go_simp; with_reducible rfl)
    try simp only [Act.put, List.setIfInBounds_toArray, List.set_cons_zero, List.set_cons_succ]
    refine wpAnyH_take (i := 38) (v := ?_) (by simp only [List.getElem?_toArray, List.getElem?_cons_succ, List.getElem?_cons_zero]; rfl) (by kernel_rfl) (by kernel_rfl) (by kernel_rfl) (fun _ _ _ h => h) (Or.inl ⟨by rfl, ?_⟩) hHeld ?_
    rotate_left
    · intro x hSw; first | (go_simp; done) | (go_simp; with_reducible rfl)
    try simp only [Act.put, List.setIfInBounds_toArray, List.set_cons_zero, List.set_cons_succ]
    refine wpAnyH_take (i := 39) (v := ?_) (by simp only [List.getElem?_toArray, List.getElem?_cons_succ, List.getElem?_cons_zero]; rfl) (by kernel_rfl) (by kernel_rfl) (by kernel_rfl) (fun _ _ _ h => h) (Or.inl ⟨by rfl, ?_⟩) hHeld ?_
    rotate_left
    · intro x hSw; first | (go_simp; done) | (go_simp; with_reducible rfl)
    try simp only [Act.put, List.setIfInBounds_toArray, List.set_cons_zero, List.set_cons_succ]
    refine wpAnyH_take (i := 40) (v := ?_) (by simp only [List.getElem?_toArray, List.getElem?_cons_succ, List.getElem?_cons_zero]; rfl) (by kernel_rfl) (by kernel_rfl) (by kernel_rfl) (fun _ _ _ h => h) (Or.inl ⟨by rfl, ?_⟩) hHeld ?_
    rotate_left
    · intro x hSw; first | (go_simp; done) | (go_simp; with_reducible rfl)
    try simp only [Act.put, List.setIfInBounds_toArray, List.set_cons_zero, List.set_cons_succ]
    refine wpAnyH_take (i := 41) (v := ?_) (by simp only [List.getElem?_toArray, List.getElem?_cons_succ, List.getElem?_cons_zero]; rfl) (by kernel_rfl) (by kernel_rfl) (by kernel_rfl) (fun _ _ _ h => h) (Or.inl ⟨by rfl, ?_⟩) hHeld ?_
    rotate_left
    · intro x hSw; first | (go_simp; done) | (go_simp; with_reducible rfl)
    try simp only [Act.put, List.setIfInBounds_toArray, List.set_cons_zero, List.set_cons_succ]
    refine wpAnyH_take (i := 42) (v := ?_) (by simp only [List.getElem?_toArray, List.getElem?_cons_succ, List.getElem?_cons_zero]; rfl) (by kernel_rfl) (by kernel_rfl) (by kernel_rfl) (fun _ _ _ h => h) (Or.inl ⟨by rfl, ?_⟩) hHeld ?_
    rotate_left
    · intro x hSw; first | (go_simp; done) | (go_simp; with_reducible rfl)
    try simp only [Act.put, List.setIfInBounds_toArray, List.set_cons_zero, List.set_cons_succ]
    refine wpAnyH_take (i := 43) (v := ?_) (by simp only [List.getElem?_toArray, List.getElem?_cons_succ, List.getElem?_cons_zero]; rfl) (by kernel_rfl) (by kernel_rfl) (by kernel_rfl) (fun _ _ _ h => h) (Or.inl ⟨by rfl, ?_⟩) hHeld ?_
    rotate_left
    · intro x hSw; first | (go_simp; done) | (go_simp; with_reducible rfl)
    try simp only [Act.put, List.setIfInBounds_toArray, List.set_cons_zero, List.set_cons_succ]
    refine wpAnyH_take (i := 44) (v := ?_) (by simp only [List.getElem?_toArray, List.getElem?_cons_succ, List.getElem?_cons_zero]; rfl) (by kernel_rfl) (by kernel_rfl) (by kernel_rfl) (fun _ _ _ h => h) (Or.inl ⟨by rfl, ?_⟩) hHeld ?_
    rotate_left
    · intro x hSw; first | (go_simp; done) | (go_simp; with_reducible rfl)
    try simp only [Act.put, List.setIfInBounds_toArray, List.set_cons_zero, List.set_cons_succ]
    refine wpAnyH_take (i := 45) (v := ?_) (by simp only [List.getElem?_toArray, List.getElem?_cons_succ, List.getElem?_cons_zero]; rfl) (by kernel_rfl) (by kernel_rfl) (by kernel_rfl) (fun _ _ _ h => h) (Or.inl ⟨by rfl, ?_⟩) hHeld ?_
    rotate_left
    · intro x hSw; first | (go_simp; done) | (go_simp; with_reducible rfl)
    try simp only [Act.put, List.setIfInBounds_toArray, List.set_cons_zero, List.set_cons_succ]
    refine wpAnyH_take (i := 46) (v := ?_) (by simp only [List.getElem?_toArray, List.getElem?_cons_succ, List.getElem?_cons_zero]; rfl) (by kernel_rfl) (by kernel_rfl) (by kernel_rfl) (fun _ _ _ h => h) (Or.inl ⟨by rfl, ?_⟩) hHeld ?_
    rotate_left
    · intro x hSw; first | (go_simp; done) | (go_simp; with_reducible rfl)
    try simp only [Act.put, List.setIfInBounds_toArray, List.set_cons_zero, List.set_cons_succ]
    refine wpAnyH_take (i := 47) (v := ?_) (by simp only [List.getElem?_toArray, List.getElem?_cons_succ, List.getElem?_cons_zero]; rfl) (by kernel_rfl) (by kernel_rfl) (by kernel_rfl) (fun _ _ _ h => h) (Or.inl ⟨by rfl, ?_⟩) hHeld ?_
    rotate_left
    · intro x hSw; first | (go_simp; done) | (go_simp; with_reducible rfl)
    try simp only [Act.put, List.setIfInBounds_toArray, List.set_cons_zero, List.set_cons_succ]
    refine wpAnyH_take (i := 48) (v := ?_) (by simp only [List.getElem?_toArray, List.getElem?_cons_succ, List.getElem?_cons_zero]; rfl) (by kernel_rfl) (by kernel_rfl) (by kernel_rfl) (fun _ _ _ h => h) (Or.inl ⟨by rfl, ?_⟩) hHeld ?_
    rotate_left
    · intro x hSw; first | (go_simp; done) | (go_simp; with_reducible rfl)
    try simp only [Act.put, List.setIfInBounds_toArray, List.set_cons_zero, List.set_cons_succ]
    refine wpAnyH_take (i := 49) (v := ?_) (by simp only [List.getElem?_toArray, List.getElem?_cons_succ, List.getElem?_cons_zero]; rfl) (by kernel_rfl) (by kernel_rfl) (by kernel_rfl) (fun _ _ _ h => h) (Or.inl ⟨by rfl, ?_⟩) hHeld ?_
    rotate_left
    · intro x hSw; (try dsimp only at hSw); obtain ⟨_, hd5, hd6, hd7, hd9, hd11, hd13, hd15, hd17⟩ := hSw; have c0 := hd5.c0; have c1 := hd5.c1; clear hd5 hd6 hd7 hd9 hd11 hd13 hd15 hd17; first | (go_simp; done) | (go_simp; with_reducible rfl)
    try simp only [Act.put, List.setIfInBounds_toArray, List.set_cons_zero, List.set_cons_succ]
    refine wpAnyH_take (i := 50) (v := ?_) (by simp only [List.getElem?_toArray, List.getElem?_cons_succ, List.getElem?_cons_zero]; rfl) (by kernel_rfl) (by kernel_rfl) (by kernel_rfl) (fun _ _ _ h => h) (Or.inl ⟨by rfl, ?_⟩) hHeld ?_
    rotate_left
    · intro x hSw; (try dsimp only at hSw); obtain ⟨_, hd5, hd6, hd7, hd9, hd11, hd13, hd15, hd17⟩ := hSw; have c0 := hd6.c0; have c1 := hd6.c1; clear hd5 hd6 hd7 hd9 hd11 hd13 hd15 hd17; first | (go_simp; done) | (go_simp; with_reducible rfl)
    try simp only [Act.put, List.setIfInBounds_toArray, List.set_cons_zero, List.set_cons_succ]
    refine wpAnyH_take (i := 52) (v := ?_) (by simp only [List.getElem?_toArray, List.getElem?_cons_succ, List.getElem?_cons_zero]; rfl) (by kernel_rfl) (by kernel_rfl) (by kernel_rfl) (fun _ _ _ h => h) (Or.inl ⟨by rfl, ?_⟩) hHeld ?_
    rotate_left
    · intro x hSw; (try dsimp only at hSw); obtain ⟨_, hd5, hd6, hd7, hd9, hd11, hd13, hd15, hd17⟩ := hSw; have c0 := hd5.c0; have c1 := hd5.c1; clear hd5 hd6 hd7 hd9 hd11 hd13 hd15 hd17; first | (go_simp; done) | (go_simp; with_reducible rfl)
    try simp only [Act.put, List.setIfInBounds_toArray, List.set_cons_zero, List.set_cons_succ]
    refine wpAnyH_take (i := 53) (v := ?_) (by simp only [List.getElem?_toArray, List.getElem?_cons_succ, List.getElem?_cons_zero]; rfl) (by kernel_rfl) (by kernel_rfl) (by kernel_rfl) (fun _ _ _ h => h) (Or.inl ⟨by rfl, ?_⟩) hHeld ?_
    rotate_left
    · intro x hSw; (try dsimp only at hSw); obtain ⟨_, hd5, hd6, hd7, hd9, hd11, hd13, hd15, hd17⟩ := hSw; have c0 := hd6.c0; have c1 := hd6.c1; clear hd5 hd6 hd7 hd9 hd11 hd13 hd15 hd17; first | (go_simp; done) | (go_simp; with_reducible rfl)
    try simp only [Act.put, List.setIfInBounds_toArray, List.set_cons_zero, List.set_cons_succ]
    refine wpAnyH_ready (rs := [51]) (by kernel_rfl) (by simp) ?_
    refine AllReadyH.cons (by simp only [List.getElem?_toArray, List.getElem?_cons_succ, List.getElem?_cons_zero]; rfl) (fun K hK => ?_) AllReadyH.nil
    try go_simp
    refine (hC1.out _).mono ?_; rintro e wq1 ⟨rfl, q1⟩
    replace kB := kB.trans (q1.mono kB.size)
    replace kd5 := kd5.below q1
    replace kd6 := kd6.below q1
    replace kd7 := kd7.below q1
    replace kd9 := kd9.below q1
    replace kd11 := kd11.below q1
    replace kd13 := kd13.below q1
    replace kd15 := kd15.below q1
    replace kd17 := kd17.below q1
    clear q1
    try go_wp2_with fail
    refine hK.out _ _ ?_ (fun hHeld => ?_)
    · exact ⟨kB, kd5, kd6, kd7, kd9, kd11, kd13, kd15, kd17⟩
    clear hK K
    try simp only [Act.put, List.setIfInBounds_toArray, List.set_cons_zero, List.set_cons_succ]
    refine wpAnyH_ready (rs := [54]) (by kernel_rfl) (by simp) ?_
    refine AllReadyH.cons (by simp only [List.getElem?_toArray, List.getElem?_cons_succ, List.getElem?_cons_zero]; rfl) (fun K hK => ?_) AllReadyH.nil
    try go_simp
    refine (hC2.out _).mono ?_; rintro e wq2 ⟨rfl, q2⟩
    replace kB := kB.trans (q2.mono kB.size)
    replace kd5 := kd5.below q2
    replace kd6 := kd6.below q2
    replace kd7 := kd7.below q2
    replace kd9 := kd9.below q2
    replace kd11 := kd11.below q2
    replace kd13 := kd13.below q2
    replace kd15 := kd15.below q2
    replace kd17 := kd17.below q2
    clear q2
    try go_wp2_with fail
    refine hK.out _ _ ?_ (fun hHeld => ?_)
    · exact ⟨kB, kd5, kd6, kd7, kd9, kd11, kd13, kd15, kd17⟩
    clear hK K
    try simp only [Act.put, List.setIfInBounds_toArray, List.set_cons_zero, List.set_cons_succ]
    refine wpAnyH_take (i := 55) (v := ?_) (by simp only [List.getElem?_toArray, List.getElem?_cons_succ, List.getElem?_cons_zero]; rfl) (by kernel_rfl) (by kernel_rfl) (by kernel_rfl) (fun _ _ _ h => h) (Or.inl ⟨by rfl, ?_⟩) hHeld ?_
    rotate_left
    · intro x hSw; first | (go_simp; done) | (go_simp; with_reducible rfl)
    try simp only [Act.put, List.setIfInBounds_toArray, List.set_cons_zero, List.set_cons_succ]
    refine wpAnyH_take (i := 56) (v := ?_) (by simp only [List.getElem?_toArray, List.getElem?_cons_succ, List.getElem?_cons_zero]; rfl) (by kernel_rfl) (by kernel_rfl) (by kernel_rfl) (fun _ _ _ h => h) (Or.inl ⟨by rfl, ?_⟩) hHeld ?_
    rotate_left
    · intro x hSw; first | (go_simp; done) | (go_simp; with_reducible rfl)
    try simp only [Act.put, List.setIfInBounds_toArray, List.set_cons_zero, List.set_cons_succ]
    refine wpAnyH_take (i := 57) (v := ?_) (by simp only [List.getElem?_toArray, List.getElem?_cons_succ, List.getElem?_cons_zero]; rfl) (by kernel_rfl) (by kernel_rfl) (by kernel_rfl) (fun _ _ _ h => h) (Or.inl ⟨by rfl, ?_⟩) hHeld ?_
    rotate_left
    · intro x hSw; first | (go_simp; done) | (go_simp; with_reducible rfl)
    try simp only [Act.put, List.setIfInBounds_toArray, List.set_cons_zero, List.set_cons_succ]
    refine wpAnyH_take (i := 58) (v := ?_) (by simp only [List.getElem?_toArray, List.getElem?_cons_succ, List.getElem?_cons_zero]; rfl) (by kernel_rfl) (by kernel_rfl) (by kernel_rfl) (fun _ _ _ h => h) (Or.inl ⟨by rfl, ?_⟩) hHeld ?_
    rotate_left
    · intro x hSw; (try dsimp only at hSw); obtain ⟨_, hd5, hd6, hd7, hd9, hd11, hd13, hd15, hd17⟩ := hSw; have c0 := hd5.c0; have c1 := hd5.c1; clear hd5 hd6 hd7 hd9 hd11 hd13 hd15 hd17; first | (go_simp; done) | (go_simp; with_reducible rfl)
    try simp only [Act.put, List.setIfInBounds_toArray, List.set_cons_zero, List.set_cons_succ]
    refine wpAnyH_take (i := 60) (v := ?_) (by simp only [List.getElem?_toArray, List.getElem?_cons_succ, List.getElem?_cons_zero]; rfl) (by kernel_rfl) (by kernel_rfl) (by kernel_rfl) (fun _ _ _ h => h) (Or.inl ⟨by rfl, ?_⟩) hHeld ?_
    rotate_left
    · intro x hSw; (try dsimp only at hSw); obtain ⟨_, hd5, hd6, hd7, hd9, hd11, hd13, hd15, hd17⟩ := hSw; have c0 := hd5.c0; have c1 := hd5.c1; clear hd5 hd6 hd7 hd9 hd11 hd13 hd15 hd17; first | (go_simp; done) | (go_simp; with_reducible rfl)
    try simp only [Act.put, List.setIfInBounds_toArray, List.set_cons_zero, List.set_cons_succ]
    refine wpAnyH_ready (rs := [59]) (by kernel_rfl) (by simp) ?_
    refine AllReadyH.cons (by simp only [List.getElem?_toArray, List.getElem?_cons_succ, List.getElem?_cons_zero]; rfl) (fun K hK => ?_) AllReadyH.nil
    try go_simp
    refine (hN1.out _).mono ?_; rintro e wq3 ⟨rfl, q3⟩
    replace kB := kB.trans (q3.mono kB.size)
    replace kd5 := kd5.below q3
    replace kd6 := kd6.below q3
    replace kd7 := kd7.below q3
    replace kd9 := kd9.below q3
    replace kd11 := kd11.below q3
    replace kd13 := kd13.below q3
    replace kd15 := kd15.below q3
    replace kd17 := kd17.below q3
    clear q3
    try go_wp2_with fail
    refine hK.out _ _ ?_ (fun hHeld => ?_)
    · exact ⟨kB, kd5, kd6, kd7, kd9, kd11, kd13, kd15, kd17⟩
    clear hK K
    try simp only [Act.put, List.setIfInBounds_toArray, List.set_cons_zero, List.set_cons_succ]
    refine wpAnyH_ready (rs := [61]) (by kernel_rfl) (by simp) ?_
    refine AllReadyH.cons (by simp only [List.getElem?_toArray, List.getElem?_cons_succ, List.getElem?_cons_zero]; rfl) (fun K hK => ?_) AllReadyH.nil
    try go_simp
    refine (hN2.out _).mono ?_; rintro e wq4 ⟨rfl, q4⟩
    replace kB := kB.trans (q4.mono kB.size)
    replace kd5 := kd5.below q4
    replace kd6 := kd6.below q4
    replace kd7 := kd7.below q4
    replace kd9 := kd9.below q4
    replace kd11 := kd11.below q4
    replace kd13 := kd13.below q4
    replace kd15 := kd15.below q4
    replace kd17 := kd17.below q4
    clear q4
    try go_wp2_with fail
    refine hK.out _ _ ?_ (fun hHeld => ?_)
    · exact ⟨kB, kd5, kd6, kd7, kd9, kd11, kd13, kd15, kd17⟩
    clear hK K
    try simp only [Act.put, List.setIfInBounds_toArray, List.set_cons_zero, List.set_cons_succ]
    refine wpAnyH_take (i := 62) (v := ?_) (by simp only [List.getElem?_toArray, List.getElem?_cons_succ, List.getElem?_cons_zero]; rfl) (by kernel_rfl) (by kernel_rfl) (by kernel_rfl) (fun _ _ _ h => h) (Or.inl ⟨by rfl, ?_⟩) hHeld ?_
    rotate_left
    · intro x hSw; first | (go_simp; done) | (go_simp; with_reducible rfl)
    try simp only [Act.put, List.setIfInBounds_toArray, List.set_cons_zero, List.set_cons_succ]
    refine wpAnyH_take (i := 63) (v := ?_) (by simp only [List.getElem?_toArray, List.getElem?_cons_succ, List.getElem?_cons_zero]; rfl) (by kernel_rfl) (by kernel_rfl) (by kernel_rfl) (fun _ _ _ h => h) (Or.inl ⟨by rfl, ?_⟩) hHeld ?_
    rotate_left
    · intro x hSw; first | (go_simp; done) | (go_simp; with_reducible rfl)
    try simp only [Act.put, List.setIfInBounds_toArray, List.set_cons_zero, List.set_cons_succ]
    refine wpAnyH_take (i := 64) (v := ?_) (by simp only [List.getElem?_toArray, List.getElem?_cons_succ, List.getElem?_cons_zero]; rfl) (by kernel_rfl) (by kernel_rfl) (by kernel_rfl) (fun _ _ _ h => h) (Or.inl ⟨by rfl, ?_⟩) hHeld ?_
    rotate_left
    · intro x hSw; first | (go_simp; done) | (go_simp; with_reducible rfl)
    try simp only [Act.put, List.setIfInBounds_toArray, List.set_cons_zero, List.set_cons_succ]
    refine wpAnyH_done (by kernel_rfl) ?_ _
    refine NoPanic.normal ?_
    try go_wp2_with fail
    go_ret
    exact ⟨rfl, kB⟩

end Go.Proofs.Ytpciohnnnpgpiaa
