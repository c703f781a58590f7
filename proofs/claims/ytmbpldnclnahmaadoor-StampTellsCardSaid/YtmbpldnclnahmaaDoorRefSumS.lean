/- The reference's Scaled. -/
import Derived.Test.YtmbpldnclnahmaaDoorRefSumA
import Derived.Test.YtmbpldnclnahmaaDoorSumS
import Derived.Deep.DeepCutAuto
import Derived.Deep.DrawnRows
import Derived.Deep.RegionHeld3
set_option linter.unusedVariables false
set_option linter.unusedSimpArgs false
namespace Go.Proofs.YtmbpldnclnahmaaDoor
open Go.RowKit Dc
attribute [local go_sem ↓] Go.wp_at_zero Go.wp_at_succ

theorem rtens_of (x : Nat) (i : Int) (v : Value) (W : World) (hv : DR W v (digs x)) (hx : x < 10 ^ 40) (h0 : 0 ≤ i) (h1 : i ≤ 100) :
    Calls Tryd.prog 46 #[v, .int .i64 i] W fun e w' => ∃ v', e = .returned v' ∧ DR w' v' (digs (x * 10 ^ i.toNat)) ∧ Below W.heap.size W w' := by
  have h := rtens_calls x i.toNat v W hv hx (by omega)
  rwa [show ((i.toNat : Nat) : Int) = i by omega] at h
theorem rwithin_of (x : Nat) (v : Value) (W : World) (hv : DR W v (digs x)) :
    Calls Tryd.prog 25 #[v] W fun e w' => e = .returned (withinV x) ∧ Below W.heap.size W w' := by
  have h := rwithin_calls (digs x) v W hv (digs_le x) (digs_head x)
  rwa [digs_val] at h
theorem scaled_form {m s k : Int} (hg : goodD m s = true) (h1 : ¬ k < s) (h2 : ¬ 18 < k) : ∃ z : Int, ∃ b : Bool, withinV (m.natAbs * 10 ^ (k - s).toNat) = .tuple #[.int .i64 z, .bool b] ∧ 0 ≤ z ∧ z ≤ 9223372036854775807 ∧
    (m < 0 → scaledV (scaledO m s k) = .tuple #[.int .i64 (-z), .bool b]) ∧ (¬ m < 0 → scaledV (scaledO m s k) = .tuple #[.int .i64 z, .bool b]) := by
  by_cases hb : m.natAbs * 10 ^ (k - s).toNat ≤ big
  · refine ⟨((m.natAbs * 10 ^ (k - s).toNat : Nat) : Int), true, by unfold withinV; rw [if_pos hb], by omega, by unfold big at hb; omega, fun h0 => ?_, fun h0 => ?_⟩
    · unfold scaledO
      rw [if_pos ⟨hg, by omega, by omega, hb⟩, Int.natCast_mul, Int.natCast_pow, ← Int.neg_mul, show -((m.natAbs : Nat) : Int) = m by omega]; rfl
    · unfold scaledO
      rw [if_pos ⟨hg, by omega, by omega, hb⟩, Int.natCast_mul, Int.natCast_pow, show ((m.natAbs : Nat) : Int) = m by omega]; rfl
  · refine ⟨0, false, by unfold withinV; rw [if_neg hb], by omega, by omega, fun _ => ?_, fun _ => ?_⟩ <;> (unfold scaledO; rw [if_neg (fun e => hb e.2.2.2)]; rfl)
set_option maxRecDepth 100000 in
set_option maxHeartbeats 4000000 in
theorem rscaled_walk (m s k : Int) (w : World) (hm1 : -9223372036854775808 ≤ m) (hm2 : m ≤ 9223372036854775807) :
    Calls Tryd.prog 29 #[dv2 m s, .int .i64 k] w fun e w' => e = .returned (scaledV (scaledO m s k)) ∧ Below w.heap.size w w' := by
  have kB := kb_alloc (Below.refl w.heap.size w) (Nat.le_refl _) (.cells #[.int .i64 m, .int .i64 s] 23)
  have kd2 := DecAt.new w m s
  go_enter Tryd.func29, Tryd.ntmps29
  go_wp2_with fail
  refine (rgood_calls m s _).mono ?_; rintro e w1 ⟨rfl, b1⟩
  replace kB := kB.trans (b1.mono kB.size)
  replace kd2 := kd2.below b1
  clear b1
  have c0 := kd2.c0
  have c1 := kd2.c1
  cases hg : goodD m s with
  | false =>
    have hres : Hid (scaledO m s k = none) := scaledO_bad (Or.inl hg)
    clear hg
    go_wp2_with fail
    go_ret2
    exact ⟨by rw [hres.out]; rfl, kB⟩
  | true =>
    by_cases h1 : k < s
    · have hres : Hid (scaledO m s k = none) := scaledO_bad (Or.inr (Or.inl h1))
      clear hg
      go_wp2_with fail
      go_ret2
      exact ⟨by rw [hres.out]; rfl, kB⟩
    by_cases h2 : 18 < k
    · have hres : Hid (scaledO m s k = none) := scaledO_bad (Or.inr (Or.inr h2))
      clear hg
      go_wp2_with fail
      go_ret2
      exact ⟨by rw [hres.out]; rfl, kB⟩
    have hm := big_of hg hm1 hm2
    obtain ⟨gs0, gs1, _, _⟩ := (goodD_iff m s).1 hg
    obtain ⟨z, bb, hzf, hz0, hz1, hneg', hpos'⟩ := scaled_form hg h1 h2
    have hneg := Lib.hid hneg'
    have hpos := Lib.hid hpos'
    have ha := Lib.hid (fun W => ramount_calls m W hm1 hm2)
    have ht := Lib.hid (fun W v hv => rtens_of m.natAbs (k - s) v W hv (by unfold big at hm; omega) (by omega) (by omega))
    have hwi := Lib.hid (fun W v hv => rwithin_of (m.natAbs * 10 ^ (k - s).toNat) v W hv)
    rw [hzf] at hwi
    have hwk : IntKind.i64.wrap (k - s) = k - s := IntWalk.i64_in _ (by omega)
    have hwz : IntKind.i64.wrap (-z) = -z := IntWalk.i64_in _ (by omega)
    generalize m.natAbs * 10 ^ (k - s).toNat = x at *
    generalize m.natAbs = y at *
    clear hg hm hm1 hm2 hzf hneg' hpos'
    go_upto_region 3 with (fail)
    clear c0 c1
    refine wp_region_noPanic ?_
    refine wp_region_held_drew (S := fun X => Below w.heap.size w X ∧ DecAt X (w.heap.size) m s) (by kernel_rfl) ?_ (fun hHeld => ?_)
    · exact ⟨Below.drew kB, DecAt.drew kd2⟩
    replace kB := Below.drew kB
    replace kd2 := DecAt.drew kd2
    obtain ⟨qw, hcur⟩ : ∃ uu, uu = w1.drew := ⟨_, rfl⟩
    rw [← hcur] at hHeld kB kd2 ⊢
    clear hcur
    refine wpAnyH_take (i := 0) (v := ?_) (by simp only [List.getElem?_toArray, List.getElem?_cons_succ, List.getElem?_cons_zero]; rfl) (by kernel_rfl) (by kernel_rfl) (by kernel_rfl) (fun _ _ _ h => h) (Or.inl ⟨by rfl, ?_⟩) hHeld ?_
    rotate_left
    · intro x hSw; first | (go_simp; done) | (go_simp; with_reducible rfl)
    try simp only [Act.put, List.setIfInBounds_toArray, List.set_cons_zero, List.set_cons_succ]
    refine wpAnyH_take (i := 1) (v := ?_) (by simp only [List.getElem?_toArray, List.getElem?_cons_succ, List.getElem?_cons_zero]; rfl) (by kernel_rfl) (by kernel_rfl) (by kernel_rfl) (fun _ _ _ h => h) (Or.inl ⟨by rfl, ?_⟩) hHeld ?_
    rotate_left
    · intro x hSw; (try dsimp only at hSw); obtain ⟨_, hd2⟩ := hSw; have c0d2 := hd2.c0; have c1d2 := hd2.c1; first | (go_simp; done) | (go_simp; with_reducible rfl)
    try simp only [Act.put, List.setIfInBounds_toArray, List.set_cons_zero, List.set_cons_succ]
    refine wpAnyH_take (i := 3) (v := ?_) (by simp only [List.getElem?_toArray, List.getElem?_cons_succ, List.getElem?_cons_zero]; rfl) (by kernel_rfl) (by kernel_rfl) (by kernel_rfl) (fun _ _ _ h => h) (Or.inl ⟨by rfl, ?_⟩) hHeld ?_
    rotate_left
    · intro x hSw; first | (go_simp; done) | (go_simp; with_reducible rfl)
    try simp only [Act.put, List.setIfInBounds_toArray, List.set_cons_zero, List.set_cons_succ]
    refine wpAnyH_take (i := 4) (v := ?_) (by simp only [List.getElem?_toArray, List.getElem?_cons_succ, List.getElem?_cons_zero]; rfl) (by kernel_rfl) (by kernel_rfl) (by kernel_rfl) (fun _ _ _ h => h) (Or.inl ⟨by rfl, ?_⟩) hHeld ?_
    rotate_left
    · intro x hSw; first | (go_simp; done) | (go_simp; with_reducible rfl)
    try simp only [Act.put, List.setIfInBounds_toArray, List.set_cons_zero, List.set_cons_succ]
    refine wpAnyH_take (i := 5) (v := ?_) (by simp only [List.getElem?_toArray, List.getElem?_cons_succ, List.getElem?_cons_zero]; rfl) (by kernel_rfl) (by kernel_rfl) (by kernel_rfl) (fun _ _ _ h => h) (Or.inl ⟨by rfl, ?_⟩) hHeld ?_
    rotate_left
    · intro x hSw; (try dsimp only at hSw); obtain ⟨_, hd2⟩ := hSw; have c0d2 := hd2.c0; have c1d2 := hd2.c1; first | (go_simp; done) | (go_simp; with_reducible rfl)
    try simp only [Act.put, List.setIfInBounds_toArray, List.set_cons_zero, List.set_cons_succ]
    refine wpAnyH_take (i := 6) (v := ?_) (by simp only [List.getElem?_toArray, List.getElem?_cons_succ, List.getElem?_cons_zero]; rfl) (by kernel_rfl) (by kernel_rfl) (by kernel_rfl) (fun _ _ _ h => h) (Or.inl ⟨by rfl, ?_⟩) hHeld ?_
    rotate_left
    · intro x hSw; first | (go_simp; done) | (go_simp; with_reducible rfl)
    try simp only [Act.put, List.setIfInBounds_toArray, List.set_cons_zero, List.set_cons_succ]
    refine wpAnyH_ready (rs := [2]) (by kernel_rfl) (by simp) ?_
    refine AllReadyH.cons (by simp only [List.getElem?_toArray, List.getElem?_cons_succ, List.getElem?_cons_zero]; rfl) (fun K hK => ?_) AllReadyH.nil
    try go_simp
    refine (ha.out _).mono ?_; rintro e wq1 ⟨va, rfl, kxa, q1⟩
    replace kB := kB.trans (q1.mono kB.size)
    replace kd2 := kd2.below q1
    clear q1
    try go_wp2_with fail
    refine hK.out _ _ ?_ (fun hHeld => ?_)
    · exact ⟨kB, kd2⟩
    clear hK K
    try simp only [Act.put, List.setIfInBounds_toArray, List.set_cons_zero, List.set_cons_succ]
    refine wpAnyH_ready (rs := [7]) (by kernel_rfl) (by simp) ?_
    refine AllReadyH.cons (by simp only [List.getElem?_toArray, List.getElem?_cons_succ, List.getElem?_cons_zero]; rfl) (fun K hK => ?_) AllReadyH.nil
    try go_simp
    refine (ht.out _ _ kxa).mono ?_; rintro e wq2 ⟨vt, rfl, kxt, q2⟩
    replace kxa := kxa.below q2
    replace kB := kB.trans (q2.mono kB.size)
    replace kd2 := kd2.below q2
    clear q2
    try go_wp2_with fail
    refine hK.out _ _ ?_ (fun hHeld => ?_)
    · exact ⟨kB, kd2⟩
    clear hK K
    try simp only [Act.put, List.setIfInBounds_toArray, List.set_cons_zero, List.set_cons_succ]
    refine wpAnyH_ready (rs := [8]) (by kernel_rfl) (by simp) ?_
    refine AllReadyH.cons (by simp only [List.getElem?_toArray, List.getElem?_cons_succ, List.getElem?_cons_zero]; rfl) (fun K hK => ?_) AllReadyH.nil
    try go_simp
    refine (hwi.out _ _ kxt).mono ?_; rintro e wq3 ⟨rfl, q3⟩
    replace kxa := kxa.below q3
    replace kxt := kxt.below q3
    replace kB := kB.trans (q3.mono kB.size)
    replace kd2 := kd2.below q3
    clear q3
    try go_wp2_with fail
    refine hK.out _ _ ?_ (fun hHeld => ?_)
    · exact ⟨kB, kd2⟩
    clear hK K
    try simp only [Act.put, List.setIfInBounds_toArray, List.set_cons_zero, List.set_cons_succ]
    refine wpAnyH_take (i := 9) (v := ?_) (by simp only [List.getElem?_toArray, List.getElem?_cons_succ, List.getElem?_cons_zero]; rfl) (by kernel_rfl) (by kernel_rfl) (by kernel_rfl) (fun _ _ _ h => h) (Or.inl ⟨by rfl, ?_⟩) hHeld ?_
    rotate_left
    · intro x hSw; first | (go_simp; done) | (go_simp; with_reducible rfl)
    try simp only [Act.put, List.setIfInBounds_toArray, List.set_cons_zero, List.set_cons_succ]
    refine wpAnyH_take (i := 10) (v := ?_) (by simp only [List.getElem?_toArray, List.getElem?_cons_succ, List.getElem?_cons_zero]; rfl) (by kernel_rfl) (by kernel_rfl) (by kernel_rfl) (fun _ _ _ h => h) (Or.inl ⟨by rfl, ?_⟩) hHeld ?_
    rotate_left
    · intro x hSw; first | (go_simp; done) | (go_simp; with_reducible rfl)
    try simp only [Act.put, List.setIfInBounds_toArray, List.set_cons_zero, List.set_cons_succ]
    refine wpAnyH_take (i := 11) (v := ?_) (by simp only [List.getElem?_toArray, List.getElem?_cons_succ, List.getElem?_cons_zero]; rfl) (by kernel_rfl) (by kernel_rfl) (by kernel_rfl) (fun _ _ _ h => h) (Or.inl ⟨by rfl, ?_⟩) hHeld ?_
    rotate_left
    · intro x hSw; first | (go_simp; done) | (go_simp; with_reducible rfl)
    try simp only [Act.put, List.setIfInBounds_toArray, List.set_cons_zero, List.set_cons_succ]
    refine wpAnyH_take (i := 12) (v := ?_) (by simp only [List.getElem?_toArray, List.getElem?_cons_succ, List.getElem?_cons_zero]; rfl) (by kernel_rfl) (by kernel_rfl) (by kernel_rfl) (fun _ _ _ h => h) (Or.inl ⟨by rfl, ?_⟩) hHeld ?_
    rotate_left
    · intro x hSw; first | (go_simp; done) | (go_simp; with_reducible rfl)
    try simp only [Act.put, List.setIfInBounds_toArray, List.set_cons_zero, List.set_cons_succ]
    refine wpAnyH_take (i := 13) (v := ?_) (by simp only [List.getElem?_toArray, List.getElem?_cons_succ, List.getElem?_cons_zero]; rfl) (by kernel_rfl) (by kernel_rfl) (by kernel_rfl) (fun _ _ _ h => h) (Or.inl ⟨by rfl, ?_⟩) hHeld ?_
    rotate_left
    · intro x hSw; first | (go_simp; done) | (go_simp; with_reducible rfl)
    try simp only [Act.put, List.setIfInBounds_toArray, List.set_cons_zero, List.set_cons_succ]
    refine wpAnyH_done (by kernel_rfl) ?_ _
    refine NoPanic.normal ?_
    have c0 := kd2.c0
    have c1 := kd2.c1
    clear kxa kxt ha ht hwi
    by_cases hm0 : m < 0
    · have hr := Lib.hid (hneg.out (by omega))
      clear hneg hpos
      go_wp2_with fail
      go_ret2
      exact ⟨by rw [hr.out]; rfl, kB⟩
    · have hr := Lib.hid (hpos.out (by omega))
      clear hneg hpos
      go_wp2_with fail
      go_ret2
      exact ⟨by rw [hr.out]; rfl, kB⟩



end Go.Proofs.YtmbpldnclnahmaaDoor
