/- The walks of package sum's Compare, Neg, Scaled. -/
import Derived.Test.YtpciohnnnpgpiaaSumU
import Derived.Deep.DeepCutAuto
set_option linter.unusedVariables false
set_option linter.unusedSimpArgs false
namespace Go.Proofs.Ytpciohnnnpgpiaa
open Go.RowKit Dc
attribute [local go_sem ↓] Go.wp_at_zero Go.wp_at_succ

theorem ord3_neg (x y : Int) : ord3 (-x) (-y) = - ord3 x y := by
  rcases ord3_cases x y with ⟨h, e⟩ | ⟨h, e⟩ | ⟨h, e⟩
  · rw [e]; exact ord3_gt (by omega)
  · rw [e]; exact ord3_lt (by omega)
  · rw [e]; exact ord3_eq (by omega)
theorem orZ_in {m s : Int} (h1 : -9223372036854775808 ≤ m) (h2 : m ≤ 9223372036854775807) : (orZ m s).1.natAbs ≤ big ∧ 0 ≤ (orZ m s).2 ∧ (orZ m s).2 ≤ 18 := by
  cases h : goodD m s with
  | true =>
    rw [orZ_good h]
    obtain ⟨a, b, _⟩ := (goodD_iff m s).1 h
    exact ⟨big_of h h1 h2, a, b⟩
  | false => rw [orZ_bad h]; exact ⟨by decide, by decide, by decide⟩
set_option maxRecDepth 100000 in
set_option maxHeartbeats 8000000 in
theorem compare_walk (m s n t : Int) (w : World) (hm1 : -9223372036854775808 ≤ m) (hm2 : m ≤ 9223372036854775807) (hn1 : -9223372036854775808 ≤ n) (hn2 : n ≤ 9223372036854775807) :
    Calls Try.prog 17 #[dv2 m s, dv2 n t] w fun e w' => e = .returned (.int .i64 (cmpO m s n t)) ∧ Below w.heap.size w w' := by
  have kB := kb_alloc (kb_alloc (Below.refl w.heap.size w) (Nat.le_refl _) (.cells #[.int .i64 m, .int .i64 s] 25)) (Nat.le_refl _) (.cells #[.int .i64 n, .int .i64 t] 25)
  have kd2 := (DecAt.new w m s).alloc (.cells #[.int .i64 n, .int .i64 t] 25)
  have kd3 := DecAt.new (w.alloc (.cells #[.int .i64 m, .int .i64 s] 25)) n t
  rw [show (w.alloc (.cells #[.int .i64 m, .int .i64 s] 25)).heap.size = w.heap.size + 1 by simp] at kd3
  have hz1 := Lib.hid (fun W => orZero_calls m s W)
  have hz2 := Lib.hid (fun W => orZero_calls n t W)
  obtain ⟨hp, hi0, hi1⟩ := orZ_in (s := s) hm1 hm2
  obtain ⟨hq, hj0, hj1⟩ := orZ_in (s := t) hn1 hn2
  have hcm0 : cmpO m s n t = ord3 (zv (orZ m s).1 (orZ m s).2) (zv (orZ n t).1 (orZ n t).2) := rfl
  obtain ⟨p, ep⟩ : ∃ p, p = (orZ m s).1 := ⟨_, rfl⟩
  obtain ⟨i, ei⟩ : ∃ i, i = (orZ m s).2 := ⟨_, rfl⟩
  obtain ⟨q, eq⟩ : ∃ q, q = (orZ n t).1 := ⟨_, rfl⟩
  obtain ⟨j, ej⟩ : ∃ j, j = (orZ n t).2 := ⟨_, rfl⟩
  rw [← ep, ← ei] at hz1 hcm0
  rw [← ep] at hp
  rw [← ei] at hi0 hi1
  rw [← eq, ← ej] at hz2 hcm0
  rw [← eq] at hq
  rw [← ej] at hj0 hj1
  have hl1 := Lib.hid (fun W => level_calls p i W hp hi0 hi1)
  have hl2 := Lib.hid (fun W => level_calls q j W hq hj0 hj1)
  have hb1 := lev_lt hp hi0
  have hb2 := lev_lt hq hj0
  have hcm := Lib.hid (fun W => compare_calls (lev p i) (lev q j) (by omega) (by omega) W)
  have hv1 := zv_is p i
  have hv2 := zv_is q j
  have hneg := ord3_neg (lev p i : Int) (lev q j : Int)
  obtain ⟨x, hx⟩ : ∃ x, x = lev p i := ⟨_, rfl⟩
  obtain ⟨y, hy⟩ : ∃ y, y = lev q j := ⟨_, rfl⟩
  rw [← hx] at hl1 hcm hv1 hneg
  rw [← hy] at hl2 hcm hv2 hneg
  obtain ⟨o, ho⟩ : ∃ o, o = ord3 (x : Int) (y : Int) := ⟨_, rfl⟩
  rw [← ho] at hcm hneg
  have hob : -1 ≤ o ∧ o ≤ 1 := by
    rcases ord3_cases (x : Int) (y : Int) with ⟨_, e⟩ | ⟨_, e⟩ | ⟨_, e⟩ <;> omega
  obtain ⟨hob1, hob2⟩ := hob
  have hresA : Hid (p < 0 → 0 ≤ q → cmpO m s n t = -1) := fun h1 h2 => by
    rw [hcm0, hv1, hv2, if_pos h1, if_neg (by omega)]
    refine ord3_lt ?_
    have h0 : x ≠ 0 := fun e => by
      rw [hx] at e
      have := lev_zero.1 e
      omega
    omega
  have hresB : Hid (0 ≤ p → q < 0 → cmpO m s n t = 1) := fun h1 h2 => by
    rw [hcm0, hv1, hv2, if_neg (by omega), if_pos h2]
    refine ord3_gt ?_
    have h0 : y ≠ 0 := fun e => by
      rw [hy] at e
      have := lev_zero.1 e
      omega
    omega
  have hresC : Hid (p < 0 → q < 0 → cmpO m s n t = -o) := fun h1 h2 => by
    rw [hcm0, hv1, hv2, if_pos h1, if_pos h2, hneg]
  have hresD : Hid (0 ≤ p → 0 ≤ q → cmpO m s n t = o) := fun h1 h2 => by
    rw [hcm0, hv1, hv2, if_neg (by omega), if_neg (by omega), ho]
  clear hcm0 hv1 hv2 hneg ho hx hy hb1 hb2 hp hq hi0 hi1 hj0 hj1 ep ei eq ej hm1 hm2 hn1 hn2
  go_enter Try.func17, Try.ntmps17
  go_upto_region 1 with (fail)
  obtain ⟨W1, hW1⟩ : ∃ W1 : World, W1 = ((w.alloc (.cells #[.int .i64 m, .int .i64 s] 25)).alloc (.cells #[.int .i64 n, .int .i64 t] 25)) := ⟨_, rfl⟩
  rw [← hW1] at kB kd2 kd3 ⊢
  clear hW1
  go_cut [2] (fun s2 wx => s2 = .pointer (some ⟨w.heap.size, 0, none⟩) ∧ Below w.heap.size w wx ∧ DecAt wx (w.heap.size) p i ∧ DecAt wx (w.heap.size + 1) q j)
  case first =>
    clear hl1 hl2 hcm hresA hresB hresC hresD
    refine wp_region_noPanic ?_
    refine wp_region_held_drew (S := fun X => Below w.heap.size w X) (by kernel_rfl) ?_ (fun hHeld => ?_)
    · exact Below.drew kB
    replace kB := Below.drew kB
    replace kd2 := DecAt.drew kd2
    replace kd3 := DecAt.drew kd3
    obtain ⟨qw, hcur⟩ : ∃ uu, uu = W1.drew := ⟨_, rfl⟩
    rw [← hcur] at hHeld kB kd2 kd3 ⊢
    clear hcur
    refine wpAnyH_ready (rs := [0, 2]) (by kernel_rfl) (by simp) ?_
    refine AllReadyH.cons (by simp only [List.getElem?_toArray, List.getElem?_cons_succ, List.getElem?_cons_zero]; rfl) (fun K hK => ?_) ?_
    · have c0d2 := kd2.c0; have c1d2 := kd2.c1; have c0d3 := kd3.c0; have c1d3 := kd3.c1
      go_simp
      clear c0d2 c1d2 c0d3 c1d3
      refine hK.out _ _ ?_ (fun hHeld => ?_)
      · exact kB
      clear hK K
      try simp only [Act.put, List.setIfInBounds_toArray, List.set_cons_zero, List.set_cons_succ]
      refine wpAnyH_ready (rs := [1, 2]) (by kernel_rfl) (by simp) ?_
      refine AllReadyH.cons (by simp only [List.getElem?_toArray, List.getElem?_cons_succ, List.getElem?_cons_zero]; rfl) (fun K hK => ?_) ?_
      · try go_simp
        refine (hz1.out _).mono ?_; rintro e wq1 ⟨rfl, q1⟩
        replace kB := kB.trans (q1.mono kB.size)
        replace kd2 := kd2.below q1
        replace kd3 := kd3.below q1
        clear q1
        try go_wp2_with fail
        refine hK.out _ _ ?_ (fun hHeld => ?_)
        · exact kB
        clear hK K
        try simp only [Act.put, List.setIfInBounds_toArray, List.set_cons_zero, List.set_cons_succ]
        refine wpAnyH_ready (rs := [2]) (by kernel_rfl) (by simp) ?_
        refine AllReadyH.cons (by simp only [List.getElem?_toArray, List.getElem?_cons_succ, List.getElem?_cons_zero]; rfl) (fun K hK => ?_) AllReadyH.nil
        have c0d2 := kd2.c0; have c1d2 := kd2.c1; have c0d3 := kd3.c0; have c1d3 := kd3.c1
        go_simp
        clear c0d2 c1d2 c0d3 c1d3
        refine hK.out _ _ ?_ (fun hHeld => ?_)
        · exact kB
        clear hK K
        try simp only [Act.put, List.setIfInBounds_toArray, List.set_cons_zero, List.set_cons_succ]
        refine wpAnyH_ready (rs := [3]) (by kernel_rfl) (by simp) ?_
        refine AllReadyH.cons (by simp only [List.getElem?_toArray, List.getElem?_cons_succ, List.getElem?_cons_zero]; rfl) (fun K hK => ?_) AllReadyH.nil
        try go_simp
        refine (hz2.out _).mono ?_; rintro e wq2 ⟨rfl, q2⟩
        replace kB := kB.trans (q2.mono kB.size)
        replace kd2 := kd2.below q2
        replace kd3 := kd3.below q2
        clear q2
        try go_wp2_with fail
        refine hK.out _ _ ?_ (fun hHeld => ?_)
        · exact kB
        clear hK K
        try simp only [Act.put, List.setIfInBounds_toArray, List.set_cons_zero, List.set_cons_succ]
        refine wpAnyH_ready (rs := [4]) (by kernel_rfl) (by simp) ?_
        refine AllReadyH.cons (by simp only [List.getElem?_toArray, List.getElem?_cons_succ, List.getElem?_cons_zero]; rfl) (fun K hK => ?_) AllReadyH.nil
        have sc0 := kd2.c0; have sc1 := kd2.c1; have sf0 := kd2.f0; have sf1 := kd2.f1
        go_simp
        clear sc0 sc1 sf0 sf1
        replace kB := below_put (g := (w.heap.size)) kB (by omega) (p) (i)
        replace kd2 := kd2.put (p) (i)
        replace kd3 := kd3.putOther (g := (w.heap.size)) (by omega) (p) (i)
        unfold putDec at kB kd2 kd3
        refine hK.out _ _ ?_ (fun hHeld => ?_)
        · exact kB
        clear hK K
        try simp only [Act.put, List.setIfInBounds_toArray, List.set_cons_zero, List.set_cons_succ]
        refine wpAnyH_ready (rs := [5]) (by kernel_rfl) (by simp) ?_
        refine AllReadyH.cons (by simp only [List.getElem?_toArray, List.getElem?_cons_succ, List.getElem?_cons_zero]; rfl) (fun K hK => ?_) AllReadyH.nil
        have sc0 := kd3.c0; have sc1 := kd3.c1; have sf0 := kd3.f0; have sf1 := kd3.f1
        go_simp
        clear sc0 sc1 sf0 sf1
        replace kB := below_put (g := (w.heap.size + 1)) kB (by omega) (q) (j)
        replace kd2 := kd2.putOther (g := (w.heap.size + 1)) (by omega) (q) (j)
        replace kd3 := kd3.put (q) (j)
        unfold putDec at kB kd2 kd3
        refine hK.out _ _ ?_ (fun hHeld => ?_)
        · exact kB
        clear hK K
        try simp only [Act.put, List.setIfInBounds_toArray, List.set_cons_zero, List.set_cons_succ]
        refine wpAnyH_done (by kernel_rfl) ?_ _
        refine NoPanic.normal ?_
        go_wp2_with fail
        go_meet
        exact ⟨rfl, kB, kd2, kd3⟩
      refine AllReadyH.cons (by simp only [List.getElem?_toArray, List.getElem?_cons_succ, List.getElem?_cons_zero]; rfl) (fun K hK => ?_) AllReadyH.nil
      have c0d2 := kd2.c0; have c1d2 := kd2.c1; have c0d3 := kd3.c0; have c1d3 := kd3.c1
      go_simp
      clear c0d2 c1d2 c0d3 c1d3
      refine hK.out _ _ ?_ (fun hHeld => ?_)
      · exact kB
      clear hK K
      try simp only [Act.put, List.setIfInBounds_toArray, List.set_cons_zero, List.set_cons_succ]
      refine wpAnyH_ready (rs := [1]) (by kernel_rfl) (by simp) ?_
      refine AllReadyH.cons (by simp only [List.getElem?_toArray, List.getElem?_cons_succ, List.getElem?_cons_zero]; rfl) (fun K hK => ?_) AllReadyH.nil
      try go_simp
      refine (hz1.out _).mono ?_; rintro e wq3 ⟨rfl, q3⟩
      replace kB := kB.trans (q3.mono kB.size)
      replace kd2 := kd2.below q3
      replace kd3 := kd3.below q3
      clear q3
      try go_wp2_with fail
      refine hK.out _ _ ?_ (fun hHeld => ?_)
      · exact kB
      clear hK K
      try simp only [Act.put, List.setIfInBounds_toArray, List.set_cons_zero, List.set_cons_succ]
      refine wpAnyH_ready (rs := [3]) (by kernel_rfl) (by simp) ?_
      refine AllReadyH.cons (by simp only [List.getElem?_toArray, List.getElem?_cons_succ, List.getElem?_cons_zero]; rfl) (fun K hK => ?_) AllReadyH.nil
      try go_simp
      refine (hz2.out _).mono ?_; rintro e wq4 ⟨rfl, q4⟩
      replace kB := kB.trans (q4.mono kB.size)
      replace kd2 := kd2.below q4
      replace kd3 := kd3.below q4
      clear q4
      try go_wp2_with fail
      refine hK.out _ _ ?_ (fun hHeld => ?_)
      · exact kB
      clear hK K
      try simp only [Act.put, List.setIfInBounds_toArray, List.set_cons_zero, List.set_cons_succ]
      refine wpAnyH_ready (rs := [4]) (by kernel_rfl) (by simp) ?_
      refine AllReadyH.cons (by simp only [List.getElem?_toArray, List.getElem?_cons_succ, List.getElem?_cons_zero]; rfl) (fun K hK => ?_) AllReadyH.nil
      have sc0 := kd2.c0; have sc1 := kd2.c1; have sf0 := kd2.f0; have sf1 := kd2.f1
      go_simp
      clear sc0 sc1 sf0 sf1
      replace kB := below_put (g := (w.heap.size)) kB (by omega) (p) (i)
      replace kd2 := kd2.put (p) (i)
      replace kd3 := kd3.putOther (g := (w.heap.size)) (by omega) (p) (i)
      unfold putDec at kB kd2 kd3
      refine hK.out _ _ ?_ (fun hHeld => ?_)
      · exact kB
      clear hK K
      try simp only [Act.put, List.setIfInBounds_toArray, List.set_cons_zero, List.set_cons_succ]
      refine wpAnyH_ready (rs := [5]) (by kernel_rfl) (by simp) ?_
      refine AllReadyH.cons (by simp only [List.getElem?_toArray, List.getElem?_cons_succ, List.getElem?_cons_zero]; rfl) (fun K hK => ?_) AllReadyH.nil
      have sc0 := kd3.c0; have sc1 := kd3.c1; have sf0 := kd3.f0; have sf1 := kd3.f1
      go_simp
      clear sc0 sc1 sf0 sf1
      replace kB := below_put (g := (w.heap.size + 1)) kB (by omega) (q) (j)
      replace kd2 := kd2.putOther (g := (w.heap.size + 1)) (by omega) (q) (j)
      replace kd3 := kd3.put (q) (j)
      unfold putDec at kB kd2 kd3
      refine hK.out _ _ ?_ (fun hHeld => ?_)
      · exact kB
      clear hK K
      try simp only [Act.put, List.setIfInBounds_toArray, List.set_cons_zero, List.set_cons_succ]
      refine wpAnyH_done (by kernel_rfl) ?_ _
      refine NoPanic.normal ?_
      go_wp2_with fail
      go_meet
      exact ⟨rfl, kB, kd2, kd3⟩
    refine AllReadyH.cons (by simp only [List.getElem?_toArray, List.getElem?_cons_succ, List.getElem?_cons_zero]; rfl) (fun K hK => ?_) AllReadyH.nil
    have c0d2 := kd2.c0; have c1d2 := kd2.c1; have c0d3 := kd3.c0; have c1d3 := kd3.c1
    go_simp
    clear c0d2 c1d2 c0d3 c1d3
    refine hK.out _ _ ?_ (fun hHeld => ?_)
    · exact kB
    clear hK K
    try simp only [Act.put, List.setIfInBounds_toArray, List.set_cons_zero, List.set_cons_succ]
    refine wpAnyH_ready (rs := [0]) (by kernel_rfl) (by simp) ?_
    refine AllReadyH.cons (by simp only [List.getElem?_toArray, List.getElem?_cons_succ, List.getElem?_cons_zero]; rfl) (fun K hK => ?_) AllReadyH.nil
    have c0d2 := kd2.c0; have c1d2 := kd2.c1; have c0d3 := kd3.c0; have c1d3 := kd3.c1
    go_simp
    clear c0d2 c1d2 c0d3 c1d3
    refine hK.out _ _ ?_ (fun hHeld => ?_)
    · exact kB
    clear hK K
    try simp only [Act.put, List.setIfInBounds_toArray, List.set_cons_zero, List.set_cons_succ]
    refine wpAnyH_ready (rs := [1]) (by kernel_rfl) (by simp) ?_
    refine AllReadyH.cons (by simp only [List.getElem?_toArray, List.getElem?_cons_succ, List.getElem?_cons_zero]; rfl) (fun K hK => ?_) AllReadyH.nil
    try go_simp
    refine (hz1.out _).mono ?_; rintro e wq5 ⟨rfl, q5⟩
    replace kB := kB.trans (q5.mono kB.size)
    replace kd2 := kd2.below q5
    replace kd3 := kd3.below q5
    clear q5
    try go_wp2_with fail
    refine hK.out _ _ ?_ (fun hHeld => ?_)
    · exact kB
    clear hK K
    try simp only [Act.put, List.setIfInBounds_toArray, List.set_cons_zero, List.set_cons_succ]
    refine wpAnyH_ready (rs := [3]) (by kernel_rfl) (by simp) ?_
    refine AllReadyH.cons (by simp only [List.getElem?_toArray, List.getElem?_cons_succ, List.getElem?_cons_zero]; rfl) (fun K hK => ?_) AllReadyH.nil
    try go_simp
    refine (hz2.out _).mono ?_; rintro e wq6 ⟨rfl, q6⟩
    replace kB := kB.trans (q6.mono kB.size)
    replace kd2 := kd2.below q6
    replace kd3 := kd3.below q6
    clear q6
    try go_wp2_with fail
    refine hK.out _ _ ?_ (fun hHeld => ?_)
    · exact kB
    clear hK K
    try simp only [Act.put, List.setIfInBounds_toArray, List.set_cons_zero, List.set_cons_succ]
    refine wpAnyH_ready (rs := [4]) (by kernel_rfl) (by simp) ?_
    refine AllReadyH.cons (by simp only [List.getElem?_toArray, List.getElem?_cons_succ, List.getElem?_cons_zero]; rfl) (fun K hK => ?_) AllReadyH.nil
    have sc0 := kd2.c0; have sc1 := kd2.c1; have sf0 := kd2.f0; have sf1 := kd2.f1
    go_simp
    clear sc0 sc1 sf0 sf1
    replace kB := below_put (g := (w.heap.size)) kB (by omega) (p) (i)
    replace kd2 := kd2.put (p) (i)
    replace kd3 := kd3.putOther (g := (w.heap.size)) (by omega) (p) (i)
    unfold putDec at kB kd2 kd3
    refine hK.out _ _ ?_ (fun hHeld => ?_)
    · exact kB
    clear hK K
    try simp only [Act.put, List.setIfInBounds_toArray, List.set_cons_zero, List.set_cons_succ]
    refine wpAnyH_ready (rs := [5]) (by kernel_rfl) (by simp) ?_
    refine AllReadyH.cons (by simp only [List.getElem?_toArray, List.getElem?_cons_succ, List.getElem?_cons_zero]; rfl) (fun K hK => ?_) AllReadyH.nil
    have sc0 := kd3.c0; have sc1 := kd3.c1; have sf0 := kd3.f0; have sf1 := kd3.f1
    go_simp
    clear sc0 sc1 sf0 sf1
    replace kB := below_put (g := (w.heap.size + 1)) kB (by omega) (q) (j)
    replace kd2 := kd2.putOther (g := (w.heap.size + 1)) (by omega) (q) (j)
    replace kd3 := kd3.put (q) (j)
    unfold putDec at kB kd2 kd3
    refine hK.out _ _ ?_ (fun hHeld => ?_)
    · exact kB
    clear hK K
    try simp only [Act.put, List.setIfInBounds_toArray, List.set_cons_zero, List.set_cons_succ]
    refine wpAnyH_done (by kernel_rfl) ?_ _
    refine NoPanic.normal ?_
    go_wp2_with fail
    go_meet
    exact ⟨rfl, kB, kd2, kd3⟩
  case rest =>
    clear kB kd2 kd3 hz1 hz2
    obtain ⟨rfl, kB, kd2, kd3⟩ := hcut
    have c0d2 := kd2.c0; have c1d2 := kd2.c1; have c0d3 := kd3.c0; have c1d3 := kd3.c1
    by_cases hp : p < 0
    · by_cases hq : q < 0
      · have hres := Lib.hid (hresC.out hp hq)
        have hnq : ¬ 0 ≤ q := by omega
        clear hresA hresB hresC hresD
        go_upto_region 6 with (fail)
        clear c0d2 c1d2 c0d3 c1d3
        refine wp_region_noPanic ?_
        refine wp_region_held_drew (S := fun X => Below w.heap.size w X ∧ DecAt X (w.heap.size) p i ∧ DecAt X (w.heap.size + 1) q j) (by kernel_rfl) ?_ (fun hHeld => ?_)
        · exact ⟨Below.drew kB, DecAt.drew kd2, DecAt.drew kd3⟩
        replace kB := Below.drew kB
        replace kd2 := DecAt.drew kd2
        replace kd3 := DecAt.drew kd3
        obtain ⟨qw, hcur⟩ : ∃ uu, uu = wc.drew := ⟨_, rfl⟩
        rw [← hcur] at hHeld kB kd2 kd3 ⊢
        clear hcur
        refine wpAnyH_take (i := 0) (v := ?_) (by simp only [List.getElem?_toArray, List.getElem?_cons_succ, List.getElem?_cons_zero]; rfl) (by kernel_rfl) (by kernel_rfl) (by kernel_rfl) (fun _ _ _ h => h) (Or.inl ⟨by rfl, ?_⟩) hHeld ?_
        rotate_left
        · intro x hSw; (try dsimp only at hSw); obtain ⟨_, hd2, hd3⟩ := hSw; have c0d2 := hd2.c0; have c1d2 := hd2.c1; have c0d3 := hd3.c0; have c1d3 := hd3.c1; first | (go_simp; done) | (go_simp; with_reducible rfl)
        try simp only [Act.put, List.setIfInBounds_toArray, List.set_cons_zero, List.set_cons_succ]
        refine wpAnyH_take (i := 2) (v := ?_) (by simp only [List.getElem?_toArray, List.getElem?_cons_succ, List.getElem?_cons_zero]; rfl) (by kernel_rfl) (by kernel_rfl) (by kernel_rfl) (fun _ _ _ h => h) (Or.inl ⟨by rfl, ?_⟩) hHeld ?_
        rotate_left
        · intro x hSw; (try dsimp only at hSw); obtain ⟨_, hd2, hd3⟩ := hSw; have c0d2 := hd2.c0; have c1d2 := hd2.c1; have c0d3 := hd3.c0; have c1d3 := hd3.c1; first | (go_simp; done) | (go_simp; with_reducible rfl)
        try simp only [Act.put, List.setIfInBounds_toArray, List.set_cons_zero, List.set_cons_succ]
        refine wpAnyH_ready (rs := [1]) (by kernel_rfl) (by simp) ?_
        refine AllReadyH.cons (by simp only [List.getElem?_toArray, List.getElem?_cons_succ, List.getElem?_cons_zero]; rfl) (fun K hK => ?_) AllReadyH.nil
        try go_simp
        refine (hl1.out _).mono ?_; rintro e wq1 ⟨rfl, q1⟩
        replace kB := kB.trans (q1.mono kB.size)
        replace kd2 := kd2.below q1
        replace kd3 := kd3.below q1
        clear q1
        try go_wp2_with fail
        refine hK.out _ _ ?_ (fun hHeld => ?_)
        · exact ⟨kB, kd2, kd3⟩
        clear hK K
        try simp only [Act.put, List.setIfInBounds_toArray, List.set_cons_zero, List.set_cons_succ]
        refine wpAnyH_ready (rs := [3]) (by kernel_rfl) (by simp) ?_
        refine AllReadyH.cons (by simp only [List.getElem?_toArray, List.getElem?_cons_succ, List.getElem?_cons_zero]; rfl) (fun K hK => ?_) AllReadyH.nil
        try go_simp
        refine (hl2.out _).mono ?_; rintro e wq2 ⟨rfl, q2⟩
        replace kB := kB.trans (q2.mono kB.size)
        replace kd2 := kd2.below q2
        replace kd3 := kd3.below q2
        clear q2
        try go_wp2_with fail
        refine hK.out _ _ ?_ (fun hHeld => ?_)
        · exact ⟨kB, kd2, kd3⟩
        clear hK K
        try simp only [Act.put, List.setIfInBounds_toArray, List.set_cons_zero, List.set_cons_succ]
        refine wpAnyH_ready (rs := [4]) (by kernel_rfl) (by simp) ?_
        refine AllReadyH.cons (by simp only [List.getElem?_toArray, List.getElem?_cons_succ, List.getElem?_cons_zero]; rfl) (fun K hK => ?_) AllReadyH.nil
        try go_simp
        refine (hcm.out _).mono ?_; rintro e wq3 ⟨rfl, q3⟩
        replace kB := kB.trans (q3.mono kB.size)
        replace kd2 := kd2.below q3
        replace kd3 := kd3.below q3
        clear q3
        try go_wp2_with fail
        refine hK.out _ _ ?_ (fun hHeld => ?_)
        · exact ⟨kB, kd2, kd3⟩
        clear hK K
        try simp only [Act.put, List.setIfInBounds_toArray, List.set_cons_zero, List.set_cons_succ]
        refine wpAnyH_take (i := 5) (v := ?_) (by simp only [List.getElem?_toArray, List.getElem?_cons_succ, List.getElem?_cons_zero]; rfl) (by kernel_rfl) (by kernel_rfl) (by kernel_rfl) (fun _ _ _ h => h) (Or.inl ⟨by rfl, ?_⟩) hHeld ?_
        rotate_left
        · intro x hSw; first | (go_simp; done) | (go_simp; with_reducible rfl)
        try simp only [Act.put, List.setIfInBounds_toArray, List.set_cons_zero, List.set_cons_succ]
        refine wpAnyH_done (by kernel_rfl) ?_ _
        refine NoPanic.normal ?_
        have c0d2 := kd2.c0
        have c1d2 := kd2.c1
        go_wp2_with fail
        go_ret
        exact ⟨by rw [hres.out]; rfl, kB⟩
      · have hres := Lib.hid (hresA.out hp (by omega))
        have hnq : 0 ≤ q := by omega
        clear hresA hresB hresC hresD hl1 hl2 hcm
        go_wp2_with fail
        go_ret
        exact ⟨by rw [hres.out]; rfl, kB⟩
    · have hp0 : 0 ≤ p := by omega
      by_cases hq : q < 0
      · have hres := Lib.hid (hresB.out hp0 hq)
        clear hresA hresB hresC hresD hl1 hl2 hcm
        go_wp2_with fail
        go_ret
        exact ⟨by rw [hres.out]; rfl, kB⟩
      · have hres := Lib.hid (hresD.out hp0 (by omega))
        have hnq : 0 ≤ q := by omega
        clear hresA hresB hresC hresD
        go_upto_region 6 with (fail)
        clear c0d2 c1d2 c0d3 c1d3
        refine wp_region_noPanic ?_
        refine wp_region_held_drew (S := fun X => Below w.heap.size w X ∧ DecAt X (w.heap.size) p i ∧ DecAt X (w.heap.size + 1) q j) (by kernel_rfl) ?_ (fun hHeld => ?_)
        · exact ⟨Below.drew kB, DecAt.drew kd2, DecAt.drew kd3⟩
        replace kB := Below.drew kB
        replace kd2 := DecAt.drew kd2
        replace kd3 := DecAt.drew kd3
        obtain ⟨qw, hcur⟩ : ∃ uu, uu = wc.drew := ⟨_, rfl⟩
        rw [← hcur] at hHeld kB kd2 kd3 ⊢
        clear hcur
        refine wpAnyH_take (i := 0) (v := ?_) (by simp only [List.getElem?_toArray, List.getElem?_cons_succ, List.getElem?_cons_zero]; rfl) (by kernel_rfl) (by kernel_rfl) (by kernel_rfl) (fun _ _ _ h => h) (Or.inl ⟨by rfl, ?_⟩) hHeld ?_
        rotate_left
        · intro x hSw; (try dsimp only at hSw); obtain ⟨_, hd2, hd3⟩ := hSw; have c0d2 := hd2.c0; have c1d2 := hd2.c1; have c0d3 := hd3.c0; have c1d3 := hd3.c1; first | (go_simp; done) | (go_simp; with_reducible rfl)
        try simp only [Act.put, List.setIfInBounds_toArray, List.set_cons_zero, List.set_cons_succ]
        refine wpAnyH_take (i := 2) (v := ?_) (by simp only [List.getElem?_toArray, List.getElem?_cons_succ, List.getElem?_cons_zero]; rfl) (by kernel_rfl) (by kernel_rfl) (by kernel_rfl) (fun _ _ _ h => h) (Or.inl ⟨by rfl, ?_⟩) hHeld ?_
        rotate_left
        · intro x hSw; (try dsimp only at hSw); obtain ⟨_, hd2, hd3⟩ := hSw; have c0d2 := hd2.c0; have c1d2 := hd2.c1; have c0d3 := hd3.c0; have c1d3 := hd3.c1; first | (go_simp; done) | (go_simp; with_reducible rfl)
        try simp only [Act.put, List.setIfInBounds_toArray, List.set_cons_zero, List.set_cons_succ]
        refine wpAnyH_ready (rs := [1]) (by kernel_rfl) (by simp) ?_
        refine AllReadyH.cons (by simp only [List.getElem?_toArray, List.getElem?_cons_succ, List.getElem?_cons_zero]; rfl) (fun K hK => ?_) AllReadyH.nil
        try go_simp
        refine (hl1.out _).mono ?_; rintro e wq1 ⟨rfl, q1⟩
        replace kB := kB.trans (q1.mono kB.size)
        replace kd2 := kd2.below q1
        replace kd3 := kd3.below q1
        clear q1
        try go_wp2_with fail
        refine hK.out _ _ ?_ (fun hHeld => ?_)
        · exact ⟨kB, kd2, kd3⟩
        clear hK K
        try simp only [Act.put, List.setIfInBounds_toArray, List.set_cons_zero, List.set_cons_succ]
        refine wpAnyH_ready (rs := [3]) (by kernel_rfl) (by simp) ?_
        refine AllReadyH.cons (by simp only [List.getElem?_toArray, List.getElem?_cons_succ, List.getElem?_cons_zero]; rfl) (fun K hK => ?_) AllReadyH.nil
        try go_simp
        refine (hl2.out _).mono ?_; rintro e wq2 ⟨rfl, q2⟩
        replace kB := kB.trans (q2.mono kB.size)
        replace kd2 := kd2.below q2
        replace kd3 := kd3.below q2
        clear q2
        try go_wp2_with fail
        refine hK.out _ _ ?_ (fun hHeld => ?_)
        · exact ⟨kB, kd2, kd3⟩
        clear hK K
        try simp only [Act.put, List.setIfInBounds_toArray, List.set_cons_zero, List.set_cons_succ]
        refine wpAnyH_ready (rs := [4]) (by kernel_rfl) (by simp) ?_
        refine AllReadyH.cons (by simp only [List.getElem?_toArray, List.getElem?_cons_succ, List.getElem?_cons_zero]; rfl) (fun K hK => ?_) AllReadyH.nil
        try go_simp
        refine (hcm.out _).mono ?_; rintro e wq3 ⟨rfl, q3⟩
        replace kB := kB.trans (q3.mono kB.size)
        replace kd2 := kd2.below q3
        replace kd3 := kd3.below q3
        clear q3
        try go_wp2_with fail
        refine hK.out _ _ ?_ (fun hHeld => ?_)
        · exact ⟨kB, kd2, kd3⟩
        clear hK K
        try simp only [Act.put, List.setIfInBounds_toArray, List.set_cons_zero, List.set_cons_succ]
        refine wpAnyH_take (i := 5) (v := ?_) (by simp only [List.getElem?_toArray, List.getElem?_cons_succ, List.getElem?_cons_zero]; rfl) (by kernel_rfl) (by kernel_rfl) (by kernel_rfl) (fun _ _ _ h => h) (Or.inl ⟨by rfl, ?_⟩) hHeld ?_
        rotate_left
        · intro x hSw; first | (go_simp; done) | (go_simp; with_reducible rfl)
        try simp only [Act.put, List.setIfInBounds_toArray, List.set_cons_zero, List.set_cons_succ]
        refine wpAnyH_done (by kernel_rfl) ?_ _
        refine NoPanic.normal ?_
        have c0d2 := kd2.c0
        have c1d2 := kd2.c1
        go_wp2_with fail
        go_ret
        exact ⟨by rw [hres.out]; rfl, kB⟩

def negO (m s : Int) : Value := dv2 (-(orZ m s).1) (orZ m s).2
set_option maxHeartbeats 4000000 in
theorem neg_walk (m s : Int) (w : World) (hm1 : -9223372036854775808 ≤ m) (hm2 : m ≤ 9223372036854775807) :
    Calls Try.prog 19 #[dv2 m s] w fun e w' => e = .returned (negO m s) ∧ Below w.heap.size w w' := by
  have kB := kb_alloc (kb_alloc (Below.refl w.heap.size w) (Nat.le_refl _) (.cells #[.int .i64 m, .int .i64 s] 25)) (Nat.le_refl _) (.cells #[.int .i64 0, .int .i64 0] 25)
  have kd1 := (DecAt.new w m s).alloc (.cells #[.int .i64 0, .int .i64 0] 25)
  have kd2 := DecAt.new (w.alloc (.cells #[.int .i64 m, .int .i64 s] 25)) 0 0
  rw [show (w.alloc (.cells #[.int .i64 m, .int .i64 s] 25)).heap.size = w.heap.size + 1 by simp] at kd2
  have hz1 := Lib.hid (fun W => orZero_calls m s W)
  obtain ⟨hp, _, _⟩ := orZ_in (s := s) hm1 hm2
  have hn0 : negO m s = dv2 (-(orZ m s).1) (orZ m s).2 := rfl
  obtain ⟨p, ep⟩ : ∃ p, p = (orZ m s).1 := ⟨_, rfl⟩
  obtain ⟨i, ei⟩ : ∃ i, i = (orZ m s).2 := ⟨_, rfl⟩
  rw [← ep, ← ei] at hz1 hn0
  rw [← ep] at hp
  unfold big at hp
  have hpb : -9223372036854775807 ≤ p ∧ p ≤ 9223372036854775807 := by omega
  obtain ⟨hpb1, hpb2⟩ := hpb
  have Hn := Lib.hid hn0
  clear hn0 ep ei hp hm1 hm2
  go_enter Try.func19, Try.ntmps19
  go_wp2_with fail
  refine (hz1.out _).mono ?_; rintro e w1 ⟨rfl, b1⟩
  replace kB := kB.trans (b1.mono kB.size)
  replace kd1 := kd1.below b1
  replace kd2 := kd2.below b1
  clear b1
  obtain ⟨p0, p1, p2, p3, p4⟩ := kd1
  obtain ⟨q0, q1, q2, q3, q4⟩ := kd2
  go_wp2_with fail
  refine bodyPost_ret (v := dv2 (-p) i) (by simp [results, Try.results19, go_sem, q0, q1, q2, q3, p0, p1, p2, p3]) rfl ⟨by rw [Hn.out], ?_⟩
  repeat (refine Below.setCell ?_ (by first | (simp; done) | (simp; omega)) _)
  exact kB

/-- a whole number, or that there is none -/
def scaledV : Option Int → Value
  | none => .tuple #[.int .i64 0, .bool false]
  | some a => .tuple #[.int .i64 a, .bool true]
theorem scaledO_bad {m s k : Int} (h : goodD m s = false ∨ k < s ∨ 18 < k) : scaledO m s k = none := by
  unfold scaledO
  rw [if_neg]
  rintro ⟨h1, h2, h3, _⟩
  rcases h with h | h | h
  · rw [h] at h1; cases h1
  · omega
  · omega
set_option maxRecDepth 100000 in
set_option maxHeartbeats 4000000 in
theorem scaled_walk (m s k : Int) (w : World) (hm1 : -9223372036854775808 ≤ m) (hm2 : m ≤ 9223372036854775807) :
    Calls Try.prog 15 #[dv2 m s, .int .i64 k] w fun e w' => e = .returned (scaledV (scaledO m s k)) ∧ Below w.heap.size w w' := by
  have kB := kb_alloc (Below.refl w.heap.size w) (Nat.le_refl _) (.cells #[.int .i64 m, .int .i64 s] 25)
  have kd2 := DecAt.new w m s
  go_enter Try.func15, Try.ntmps15
  go_wp2_with fail
  refine (good_calls m s _).mono ?_; rintro e w1 ⟨rfl, b1⟩
  replace kB := kB.trans (b1.mono kB.size)
  replace kd2 := kd2.below b1
  clear b1
  have c0 := kd2.c0
  have c1 := kd2.c1
  cases hg : goodD m s with
  | false =>
    have hres : Hid (scaledO m s k = none) := scaledO_bad (Or.inl hg)
    clear hg
    go_wp2_with fail
    go_ret2
    exact ⟨by rw [hres.out]; rfl, kB⟩
  | true =>
    by_cases h1 : k < s
    · have hres : Hid (scaledO m s k = none) := scaledO_bad (Or.inr (Or.inl h1))
      clear hg
      go_wp2_with fail
      go_ret2
      exact ⟨by rw [hres.out]; rfl, kB⟩
    by_cases h2 : 18 < k
    · have hres : Hid (scaledO m s k = none) := scaledO_bad (Or.inr (Or.inr h2))
      clear hg
      go_wp2_with fail
      go_ret2
      exact ⟨by rw [hres.out]; rfl, kB⟩
    have hm := big_of hg hm1 hm2
    obtain ⟨gs0, gs1, _, _⟩ := (goodD_iff m s).1 hg
    have hsp := Lib.hid (fun W => spread_calls m (k - s).toNat W hm (by omega))
    rw [show (((k - s).toNat : Nat) : Int) = k - s by omega] at hsp
    have hxb : m.natAbs * 10 ^ (k - s).toNat < 10 ^ 55 := by
      have h3 : (10 : Nat) ^ (k - s).toNat ≤ 10 ^ 18 := Nat.pow_le_pow_right (by omega) (by omega)
      have h4 : m.natAbs * 10 ^ (k - s).toNat ≤ big * 10 ^ 18 := Nat.mul_le_mul hm h3
      unfold big at h4
      omega
    have hj := Lib.hid (fun W => join_calls (m.natAbs * 10 ^ (k - s).toNat) hxb W)
    have hno : Hid (¬ m.natAbs * 10 ^ (k - s).toNat ≤ big → scaledO m s k = none) := fun h => by
      unfold scaledO
      rw [if_neg (fun e => h e.2.2.2)]
    have hyes : Hid (m.natAbs * 10 ^ (k - s).toNat ≤ big → scaledO m s k = some (sgnV (decide (m < 0)) (m.natAbs * 10 ^ (k - s).toNat))) := fun h => by
      unfold scaledO
      rw [if_pos ⟨hg, by omega, by omega, h⟩]
      congr 1
      unfold sgnV
      by_cases h0 : m < 0
      · rw [if_pos (by simpa using h0), Int.natCast_mul, Int.natCast_pow, ← Int.neg_mul, show -((m.natAbs : Nat) : Int) = m by omega]; rfl
      · rw [if_neg (by simpa using h0), Int.natCast_mul, Int.natCast_pow, show ((m.natAbs : Nat) : Int) = m by omega]; rfl
    obtain ⟨x, hx⟩ : ∃ x, x = m.natAbs * 10 ^ (k - s).toNat := ⟨_, rfl⟩
    rw [← hx] at hsp hj hno hyes
    have hk0 : ¬ k < s := h1
    clear hg hm hxb hx hm1 hm2
    go_wp2_with fail
    refine (hsp.out _).mono ?_; rintro e w2 ⟨rfl, b2⟩
    replace kB := kB.trans (b2.mono kB.size)
    replace kd2 := kd2.below b2
    clear b2 hsp c0 c1
    go_wp2_with fail
    refine (hj.out _).mono ?_; rintro e w3 ⟨rfl, b3⟩
    replace kB := kB.trans (b3.mono kB.size)
    replace kd2 := kd2.below b3
    clear b3 hj
    have c0 := kd2.c0
    have c1 := kd2.c1
    by_cases hb : x ≤ big
    · have hres := Lib.hid (hyes.out hb)
      have hsg := Lib.hid (fun W => signed_calls (decide (m < 0)) x W hb)
      rw [joinV_le hb]
      clear hno hyes hb
      go_wp2_with fail
      refine (hsg.out _).mono ?_; rintro e w4 ⟨rfl, rfl⟩
      clear hsg
      obtain ⟨z, hz⟩ : ∃ z, z = sgnV (decide (m < 0)) x := ⟨_, rfl⟩
      rw [← hz] at hres ⊢
      clear hz
      go_wp2_with fail
      go_ret2
      exact ⟨by rw [hres.out]; rfl, kB⟩
    · have hres := Lib.hid (hno.out hb)
      rw [joinV_gt hb]
      clear hno hyes hb
      go_wp2_with fail
      go_ret2
      exact ⟨by rw [hres.out]; rfl, kB⟩

end Go.Proofs.Ytpciohnnnpgpiaa
