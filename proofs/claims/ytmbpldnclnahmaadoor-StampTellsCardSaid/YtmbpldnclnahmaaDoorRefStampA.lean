/- The reference's times: IsTime, Seconds, Time, Ms, Of. -/
import Derived.Test.YtmbpldnclnahmaaDoorStampPlain
import Derived.Test.YtmbpldnclnahmaaDoorStampB
import Derived.Test.YtmbpldnclnahmaaDoorRefSumS
import Derived.Test.YtmbpldnclnahmaaDoorRefDecG
import Derived.OwnWalk
set_option maxRecDepth 100000
set_option linter.unusedVariables false
set_option linter.unusedSimpArgs false
namespace Go.Proofs.YtmbpldnclnahmaaDoor
open Go.RowKit Dc

set_option maxHeartbeats 2000000 in
theorem risTime_calls (x : Int) (w : World) :
    Calls Tryd.prog 30 #[.int .i64 x] w fun e w' => e = .returned (.bool (isT x)) ∧ w = w' := by
  by_cases h1 : -1125899906842624 ≤ x
  · by_cases h2 : x ≤ 1125899906842624
    · have e : isT x = true := (isT_iff x).2 ⟨h1, h2⟩
      rw [e]; clear e
      go_enter Tryd.func30, Tryd.ntmps30
      go_wp2
      go_ret
      exact ⟨rfl, rfl⟩
    · have e : isT x = false := by unfold isT; simp; omega
      rw [e]; clear e
      go_enter Tryd.func30, Tryd.ntmps30
      go_wp2
      go_ret
      exact ⟨rfl, rfl⟩
  · have e : isT x = false := by unfold isT; simp; omega
    rw [e]; clear e
    go_enter Tryd.func30, Tryd.ntmps30
    go_wp2
    go_ret
    exact ⟨rfl, rfl⟩

set_option maxHeartbeats 2000000 in
theorem rsec_calls (m s : Int) (w : World) (h1 : -9223372036854775808 ≤ m) (h2 : m ≤ 9223372036854775807) :
    Calls Tryd.prog 13 #[dv2 m s] w fun e w' => e = .returned (scaledV (secO m s)) ∧ Below w.heap.size w w' := by
  have kB := kb_alloc (Below.refl w.heap.size w) (Nat.le_refl _) (.cells #[.int .i64 m, .int .i64 s] 23)
  have kd := DecAt.new w m s
  go_enter Tryd.func13, Tryd.ntmps13
  obtain ⟨p0, p1, p2, p3, p4⟩ := kd
  go_wp2_with fail
  refine (rscaled_walk m s 3 _ h1 h2).mono ?_; rintro e w2 ⟨rfl, b2⟩
  replace kB := kB.trans (b2.mono kB.size)
  clear b2 p0 p1 p2 p3 p4
  cases ho : scaledO m s 3 with
  | none =>
    have hr : Hid (secO m s = none) := by show _ = _; unfold secO; rw [ho]; rfl
    clear ho
    rw [show scaledV none = .tuple #[.int .i64 0, .bool false] from rfl]
    go_wp2_with fail
    go_ret2
    exact ⟨by rw [hr.out]; rfl, kB⟩
  | some t =>
    have hq : Hid (secO m s = timeO (some t)) := by show _ = _; unfold secO; rw [ho]
    clear ho
    rw [show scaledV (some t) = .tuple #[.int .i64 t, .bool true] from rfl]
    go_wp2_with fail
    refine (risTime_calls t _).mono ?_; rintro e w3 ⟨rfl, rfl⟩
    cases hx : isT t with
    | true =>
      have hr : Hid (secO m s = some t) := by show _ = _; rw [hq.out]; unfold timeO; simp [hx]
      clear hx
      go_wp2_with fail
      go_ret2
      exact ⟨by rw [hr.out]; rfl, kB⟩
    | false =>
      have hr : Hid (secO m s = none) := by show _ = _; rw [hq.out]; unfold timeO; simp [hx]
      clear hx
      go_wp2_with fail
      go_ret2
      exact ⟨by rw [hr.out]; rfl, kB⟩

set_option maxHeartbeats 2000000 in
theorem rtime_calls (x : Int) (w : World) (h1 : -9223372036854775808 ≤ x) (h2 : x ≤ 9223372036854775807) :
    Calls Tryd.prog 15 #[.int .i64 x] w fun e w' => e = .returned (.string (str (textO x))) ∧ Below w.heap.size w w' := by
  have b0 := Below.refl w.heap.size w
  go_enter Tryd.func15, Tryd.ntmps15
  go_wp2_with fail
  refine (risTime_calls x _).mono ?_; rintro e w1 ⟨rfl, rfl⟩
  cases hx : isT x with
  | false =>
    have hr : Hid (textO x = []) := by show _ = _; unfold textO; rw [sOf_none hx]
    clear hx
    go_wp2_with fail
    go_ret
    exact ⟨by rw [hr.out]; rfl, b0⟩
  | true =>
    obtain ⟨m, k, hs, hd⟩ := sOf_some hx
    obtain ⟨hm1, hm2⟩ := sOf_b hs
    have hr : Hid (textO x = printL m k) := by show _ = _; unfold textO; rw [hs]
    have hn := Lib.hid (fun W => rnorm_calls x 3 W h1 h2 (by omega) (by omega))
    rw [show (3 : Int) = ((3 : Nat) : Int) from rfl, hd, show rdecV (some (m, k)) = Value.tuple #[dv2 m k, .bool true] from rfl, show ((3 : Nat) : Int) = (3 : Int) from rfl] at hn
    clear hx hs hd
    go_wp2_with fail
    refine (hn.out _).mono ?_; rintro e w1 ⟨rfl, kB⟩
    have kB2 := kb_alloc kB (Nat.le_refl _) (.cells #[.int .i64 m, .int .i64 k] 23)
    have kd := DecAt.new w1 m k
    obtain ⟨p0, p1, p2, p3, p4⟩ := kd
    clear hn
    go_wp2_with fail
    refine (rprint_calls m k _ hm1 hm2).mono ?_; rintro e w2 ⟨rfl, b2⟩
    go_wp2_with fail
    go_ret
    exact ⟨by rw [hr.out]; rfl, kB2.trans (b2.mono kB2.size)⟩

theorem rms_out {n u : Int} (h0 : u ≠ 0) (h1 : u ≠ 1) (h2 : u ≠ 2) (h3 : u ≠ 3) : rmsO n u = none := by unfold rmsO; rw [if_neg h0, if_neg h1, if_neg h2, if_neg h3]
theorem rms_0 (n : Int) : rmsO n 0 = timeO (if -1125899906842624 ≤ n ∧ n ≤ 1125899906842624 then some (n * 1000) else none) := rfl
theorem rms_1 (n : Int) : rmsO n 1 = timeO (some n) := rfl
theorem rms_2 (n : Int) : rmsO n 2 = timeO (if n.tmod 1000 = 0 then some (n.tdiv 1000) else none) := rfl
theorem rms_3 (n : Int) : rmsO n 3 = timeO (if n.tmod 1000000 = 0 then some (n.tdiv 1000000) else none) := rfl
theorem timeO_t {t : Int} (h : isT t = true) : timeO (some t) = some t := by unfold timeO; simp [h]
theorem timeO_f {t : Int} (h : isT t = false) : timeO (some t) = none := by unfold timeO; simp [h]
theorem tdiv_b {n d : Int} (hd : 1 ≤ d) (h1 : -9223372036854775808 ≤ n) (h2 : n ≤ 9223372036854775807) : -9223372036854775808 ≤ n.tdiv d ∧ n.tdiv d ≤ 9223372036854775807 := by
  have h := Int.natAbs_tdiv_le_natAbs n d
  by_cases h0 : 0 ≤ n
  · have := Int.tdiv_nonneg h0 (show 0 ≤ d by omega); omega
  · have h3 := Int.tdiv_nonneg (a := -n) (b := d) (by omega) (by omega)
    rw [Int.neg_tdiv] at h3; omega

set_option maxHeartbeats 4000000 in
theorem rms_calls (n u : Int) (w : World) (h1 : -9223372036854775808 ≤ n) (h2 : n ≤ 9223372036854775807) :
    Calls Tryd.prog 17 #[.int .i64 n, .int .i64 u] w fun e w' => e = .returned (scaledV (msO n u)) ∧ w = w' := by
  rw [← msO_ref n u h1 h2]
  by_cases u0 : u = 0
  · subst u0
    rw [rms_0]
    by_cases hn : -1125899906842624 ≤ n ∧ n ≤ 1125899906842624
    · rw [if_pos hn]
      obtain ⟨g1, g2⟩ := hn
      have hwr : IntKind.i64.wrap (n * 1000) = n * 1000 := IntWalk.i64_in _ (by omega)
      cases hx : isT (n * 1000) with
      | true =>
        rw [timeO_t hx]
        go_enter Tryd.func17, Tryd.ntmps17
        go_wp2_with fail
        refine (risTime_calls (n * 1000) _).mono ?_; rintro e w1 ⟨rfl, rfl⟩
        rw [hx]
        clear hx
        go_wp2_with fail
        go_ret2
        exact ⟨rfl, rfl⟩
      | false =>
        rw [timeO_f hx]
        go_enter Tryd.func17, Tryd.ntmps17
        go_wp2_with fail
        refine (risTime_calls (n * 1000) _).mono ?_; rintro e w1 ⟨rfl, rfl⟩
        rw [hx]
        clear hx
        go_wp2_with fail
        go_ret2
        exact ⟨rfl, rfl⟩
    · rw [if_neg hn, show timeO none = none from rfl]
      by_cases g1 : -1125899906842624 ≤ n
      · have g2 : ¬ n ≤ 1125899906842624 := fun h => hn ⟨g1, h⟩
        clear hn
        go_enter Tryd.func17, Tryd.ntmps17
        go_wp2
        go_ret2
        exact ⟨rfl, rfl⟩
      · clear hn
        go_enter Tryd.func17, Tryd.ntmps17
        go_wp2
        go_ret2
        exact ⟨rfl, rfl⟩
  by_cases u1 : u = 1
  · subst u1
    rw [rms_1]
    have hm : n.tmod 1 = 0 := Int.tmod_one n
    have hd : n.tdiv 1 = n := Int.tdiv_one n
    have hwr : IntKind.i64.wrap n = n := IntWalk.i64_in _ (by omega)
    cases hx : isT n with
    | true =>
      rw [timeO_t hx]
      go_enter Tryd.func17, Tryd.ntmps17
      go_wp2_with fail
      refine (risTime_calls n _).mono ?_; rintro e w1 ⟨rfl, rfl⟩
      rw [hx]
      clear hx
      go_wp2_with fail
      go_ret2
      exact ⟨rfl, rfl⟩
    | false =>
      rw [timeO_f hx]
      go_enter Tryd.func17, Tryd.ntmps17
      go_wp2_with fail
      refine (risTime_calls n _).mono ?_; rintro e w1 ⟨rfl, rfl⟩
      rw [hx]
      clear hx
      go_wp2_with fail
      go_ret2
      exact ⟨rfl, rfl⟩
  by_cases u2 : u = 2
  · subst u2
    rw [rms_2]
    obtain ⟨q1, q2⟩ := tdiv_b (d := 1000) (by omega) h1 h2
    have hwr : IntKind.i64.wrap (n.tdiv 1000) = n.tdiv 1000 := IntWalk.i64_in _ (by omega)
    by_cases hm : n.tmod 1000 = 0
    · rw [if_pos hm]
      have hmb : (n.tmod 1000 != 0) = false := by simpa using hm
      cases hx : isT (n.tdiv 1000) with
      | true =>
        rw [timeO_t hx]
        go_enter Tryd.func17, Tryd.ntmps17
        go_wp2_with fail
        refine (risTime_calls (n.tdiv 1000) _).mono ?_; rintro e w1 ⟨rfl, rfl⟩
        rw [hx]
        clear hx
        go_wp2_with fail
        go_ret2
        exact ⟨rfl, rfl⟩
      | false =>
        rw [timeO_f hx]
        go_enter Tryd.func17, Tryd.ntmps17
        go_wp2_with fail
        refine (risTime_calls (n.tdiv 1000) _).mono ?_; rintro e w1 ⟨rfl, rfl⟩
        rw [hx]
        clear hx
        go_wp2_with fail
        go_ret2
        exact ⟨rfl, rfl⟩
    · rw [if_neg hm, show timeO none = none from rfl]
      have hmb : (n.tmod 1000 != 0) = true := by simpa using hm
      go_enter Tryd.func17, Tryd.ntmps17
      go_wp2_with fail
      go_ret2
      exact ⟨rfl, rfl⟩
  by_cases u3 : u = 3
  · subst u3
    rw [rms_3]
    obtain ⟨q1, q2⟩ := tdiv_b (d := 1000000) (by omega) h1 h2
    have hwr : IntKind.i64.wrap (n.tdiv 1000000) = n.tdiv 1000000 := IntWalk.i64_in _ (by omega)
    by_cases hm : n.tmod 1000000 = 0
    · rw [if_pos hm]
      have hmb : (n.tmod 1000000 != 0) = false := by simpa using hm
      cases hx : isT (n.tdiv 1000000) with
      | true =>
        rw [timeO_t hx]
        go_enter Tryd.func17, Tryd.ntmps17
        go_wp2_with fail
        refine (risTime_calls (n.tdiv 1000000) _).mono ?_; rintro e w1 ⟨rfl, rfl⟩
        rw [hx]
        clear hx
        go_wp2_with fail
        go_ret2
        exact ⟨rfl, rfl⟩
      | false =>
        rw [timeO_f hx]
        go_enter Tryd.func17, Tryd.ntmps17
        go_wp2_with fail
        refine (risTime_calls (n.tdiv 1000000) _).mono ?_; rintro e w1 ⟨rfl, rfl⟩
        rw [hx]
        clear hx
        go_wp2_with fail
        go_ret2
        exact ⟨rfl, rfl⟩
    · rw [if_neg hm, show timeO none = none from rfl]
      have hmb : (n.tmod 1000000 != 0) = true := by simpa using hm
      go_enter Tryd.func17, Tryd.ntmps17
      go_wp2_with fail
      go_ret2
      exact ⟨rfl, rfl⟩
  rw [rms_out u0 u1 u2 u3]
  have v0 : (u == 0) = false := by simpa using u0
  have v1 : (u == 1) = false := by simpa using u1
  have v2 : (u == 2) = false := by simpa using u2
  have v3 : (u == 3) = false := by simpa using u3
  go_enter Tryd.func17, Tryd.ntmps17
  go_wp2_with fail
  go_ret2
  exact ⟨rfl, rfl⟩

theorem rof_0 {x : Int} (h : isT x = true) : rofO x 0 = if x.tmod 1000 = 0 then some (x.tdiv 1000) else none := by unfold rofO; rw [if_pos h]; rfl
theorem rof_1 {x : Int} (h : isT x = true) : rofO x 1 = some x := by unfold rofO; rw [if_pos h]; rfl
theorem rof_2 {x : Int} (h : isT x = true) : rofO x 2 = some (x * 1000) := by unfold rofO; rw [if_pos h]; rfl
theorem rof_3 {x : Int} (h : isT x = true) : rofO x 3 = if -9223372036854 ≤ x ∧ x ≤ 9223372036854 then some (x * 1000000) else none := by unfold rofO; rw [if_pos h]; rfl
theorem rof_out {x u : Int} (h0 : u ≠ 0) (h1 : u ≠ 1) (h2 : u ≠ 2) (h3 : u ≠ 3) : rofO x u = none := by unfold rofO; rw [if_neg h0, if_neg h1, if_neg h2, if_neg h3]; split <;> rfl
theorem rof_f {x u : Int} (h : isT x = false) : rofO x u = none := by unfold rofO; rw [h]; rfl
set_option maxHeartbeats 4000000 in
theorem rof_calls (x u : Int) (w : World) (h1 : -9223372036854775808 ≤ x) (h2 : x ≤ 9223372036854775807) :
    Calls Tryd.prog 19 #[.int .i64 x, .int .i64 u] w fun e w' => e = .returned (scaledV (ofO x u)) ∧ w = w' := by
  rw [← ofO_ref x u]
  cases hx : isT x with
  | false =>
    rw [rof_f hx]
    go_enter Tryd.func19, Tryd.ntmps19
    go_wp2_with fail
    refine (risTime_calls x _).mono ?_; rintro e w1 ⟨rfl, rfl⟩
    rw [hx]
    clear hx
    go_wp2_with fail
    go_ret2
    exact ⟨rfl, rfl⟩
  | true =>
    obtain ⟨b1, b2⟩ := (isT_iff x).1 hx
    have hc := Lib.hid (fun W => risTime_calls x W)
    rw [hx] at hc
    by_cases u0 : u = 0
    · subst u0
      rw [rof_0 hx]
      clear hx
      obtain ⟨q1, q2⟩ := tdiv_b (d := 1000) (by omega) h1 h2
      have hwr : IntKind.i64.wrap (x.tdiv 1000) = x.tdiv 1000 := IntWalk.i64_in _ (by omega)
      by_cases hm : x.tmod 1000 = 0
      · rw [if_pos hm]
        have hmb : (x.tmod 1000 != 0) = false := by simpa using hm
        go_enter Tryd.func19, Tryd.ntmps19
        go_wp2_with fail
        refine (hc.out _).mono ?_; rintro e w1 ⟨rfl, rfl⟩
        go_wp2_with fail
        go_ret2
        exact ⟨rfl, rfl⟩
      · rw [if_neg hm]
        have hmb : (x.tmod 1000 != 0) = true := by simpa using hm
        go_enter Tryd.func19, Tryd.ntmps19
        go_wp2_with fail
        refine (hc.out _).mono ?_; rintro e w1 ⟨rfl, rfl⟩
        go_wp2_with fail
        go_ret2
        exact ⟨rfl, rfl⟩
    by_cases u1 : u = 1
    · subst u1
      rw [rof_1 hx]
      clear hx
      go_enter Tryd.func19, Tryd.ntmps19
      go_wp2_with fail
      refine (hc.out _).mono ?_; rintro e w1 ⟨rfl, rfl⟩
      go_wp2_with fail
      go_ret2
      exact ⟨rfl, rfl⟩
    by_cases u2 : u = 2
    · subst u2
      rw [rof_2 hx]
      clear hx
      have hwr : IntKind.i64.wrap (x * 1000) = x * 1000 := IntWalk.i64_in _ (by omega)
      go_enter Tryd.func19, Tryd.ntmps19
      go_wp2_with fail
      refine (hc.out _).mono ?_; rintro e w1 ⟨rfl, rfl⟩
      go_wp2_with fail
      go_ret2
      exact ⟨rfl, rfl⟩
    by_cases u3 : u = 3
    · subst u3
      rw [rof_3 hx]
      clear hx
      by_cases g1 : -9223372036854 ≤ x
      · by_cases g2 : x ≤ 9223372036854
        · rw [if_pos ⟨g1, g2⟩]
          have hwr : IntKind.i64.wrap (x * 1000000) = x * 1000000 := IntWalk.i64_in _ (by omega)
          go_enter Tryd.func19, Tryd.ntmps19
          go_wp2_with fail
          refine (hc.out _).mono ?_; rintro e w1 ⟨rfl, rfl⟩
          go_wp2_with fail
          go_ret2
          exact ⟨rfl, rfl⟩
        · rw [if_neg (fun h => g2 h.2)]
          go_enter Tryd.func19, Tryd.ntmps19
          go_wp2_with fail
          refine (hc.out _).mono ?_; rintro e w1 ⟨rfl, rfl⟩
          go_wp2_with fail
          go_ret2
          exact ⟨rfl, rfl⟩
      · rw [if_neg (fun h => g1 h.1)]
        go_enter Tryd.func19, Tryd.ntmps19
        go_wp2_with fail
        refine (hc.out _).mono ?_; rintro e w1 ⟨rfl, rfl⟩
        go_wp2_with fail
        go_ret2
        exact ⟨rfl, rfl⟩
    rw [rof_out u0 u1 u2 u3]
    have v0 : (u == 0) = false := by simpa using u0
    have v1 : (u == 1) = false := by simpa using u1
    have v2 : (u == 2) = false := by simpa using u2
    have v3 : (u == 3) = false := by simpa using u3
    clear hx
    go_enter Tryd.func19, Tryd.ntmps19
    go_wp2_with fail
    refine (hc.out _).mono ?_; rintro e w1 ⟨rfl, rfl⟩
    go_wp2_with fail
    go_ret2
    exact ⟨rfl, rfl⟩

end Go.Proofs.YtmbpldnclnahmaaDoor
