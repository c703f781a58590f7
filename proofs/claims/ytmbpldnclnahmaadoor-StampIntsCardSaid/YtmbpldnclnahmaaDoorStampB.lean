/- The walks of package stamp's times: seconds, Seconds, Text, Ms, Of. -/
import Derived.Test.YtmbpldnclnahmaaDoorStampA
import Derived.Test.YtmbpldnclnahmaaDoorDecD
import Derived.Deep.RegionHeld3
import Derived.Deep.DrawnRows
set_option maxRecDepth 100000
set_option linter.unusedVariables false
set_option linter.unusedSimpArgs false
namespace Go.Proofs.YtmbpldnclnahmaaDoor
open Go.RowKit Dc
attribute [local go_sem ↓] Go.wp_at_zero Go.wp_at_succ

theorem Pl.at {w : World} (h : Pl w) (i : Nat) (hi : i < 4) (z : Int) (hz : z = (3 * i : Nat)) : w.cell? ⟨0, i, none⟩ = some (.int .i64 z) := by rw [hz]; exact h.cells i hi
theorem sOf_b {x m : Int} {k : Nat} (h : sOf x = some (m, k)) : -9223372036854775808 ≤ m ∧ m ≤ 9223372036854775807 := by
  unfold sOf at h
  split at h
  · obtain ⟨_, hb, _⟩ := decOf_is h; unfold big at hb; omega
  · cases h

set_option maxHeartbeats 2000000 in
theorem seconds_calls (x : Int) (w : World) (hp : Pl w) (h1 : -9223372036854775808 ≤ x) (h2 : x ≤ 9223372036854775807) :
    Calls Tryd.prog 31 #[.int .i64 x] w fun e w' => e = .returned (normV (sOf x)) ∧ Below w.heap.size w w' := by
  have kB := kb_alloc (Below.refl w.heap.size w) (Nat.le_refl _) (.cells #[.int .i64 0, .int .i64 0] 23)
  have kd := DecAt.new w 0 0
  have kp := hp.alloc (.cells #[.int .i64 0, .int .i64 0] 23)
  go_enter Tryd.func31, Tryd.ntmps31
  go_wp2_with fail
  refine (isTime_calls x _).mono ?_; rintro e w1 ⟨rfl, rfl⟩
  generalize w.alloc (.cells #[.int .i64 0, .int .i64 0] 23) = W at *
  obtain ⟨p0, p1, p2, p3, p4⟩ := kd
  cases hx : isT x with
  | false =>
    have hs := Lib.hid (sOf_none hx)
    clear hx kp hp
    go_wp2_with fail
    refine bodyPost_ret (v := normV none) (by simp [results, Tryd.results31, go_sem, normV, p0, p1, p2, p3]) rfl ⟨by rw [hs.out], ?_⟩
    repeat (refine Below.setCell ?_ (by first | (simp; done) | (simp; omega)) _)
    exact kB
  | true =>
    have hs : Hid (sOf x = decOf (decide (x < 0)) x.natAbs 3) := by show _ = _; unfold sOf; rw [if_pos hx]
    have c3 := kp.at 1 (by omega) 3 rfl
    clear hx kp hp
    go_wp2_with fail
    refine (norm_calls x 3 _ h1 h2 (by omega)).mono ?_; rintro e w2 ⟨rfl, b2⟩
    have kd : DecAt w2 w.heap.size 0 0 := (DecAt.mk p0 p1 p2 p3 p4).below b2
    replace kB := kB.trans (b2.mono kB.size)
    clear b2 c3 p0 p1 p2 p3 p4
    obtain ⟨p0, p1, p2, p3, p4⟩ := kd
    rw [← hs.out]
    cases ho : sOf x with
    | none =>
      have Ho := Lib.hid ho
      clear ho
      rw [show normV none = Value.tuple #[dv2 0 0, .bool false] from rfl]
      go_wp2_with fail
      refine bodyPost_ret (v := normV none) (by simp [results, Tryd.results31, go_sem, normV, p0, p1, p2, p3]) rfl ⟨by rw [Ho.out], ?_⟩
      repeat (refine Below.setCell ?_ (by first | (simp; done) | (simp; omega)) _)
      exact kB
    | some r =>
      obtain ⟨m, k⟩ := r
      have Ho := Lib.hid ho
      clear ho
      rw [show normV (some (m, k)) = Value.tuple #[dv2 m k, .bool true] from rfl]
      go_wp2_with fail
      refine bodyPost_ret (v := normV (some (m, k))) (by simp [results, Tryd.results31, go_sem, normV, p0, p1, p2, p3]) rfl ⟨by rw [Ho.out], ?_⟩
      repeat (refine Below.setCell ?_ (by first | (simp; done) | (simp; omega)) _)
      exact kB

set_option maxHeartbeats 2000000 in
theorem sec_calls (m s : Int) (w : World) (hp : Pl w) (h1 : -9223372036854775808 ≤ m) (h2 : m ≤ 9223372036854775807) :
    Calls Tryd.prog 12 #[dv2 m s] w fun e w' => e = .returned (scaledV (secO m s)) ∧ Below w.heap.size w w' := by
  have kB := kb_alloc (Below.refl w.heap.size w) (Nat.le_refl _) (.cells #[.int .i64 m, .int .i64 s] 23)
  have kd := DecAt.new w m s
  have kp := hp.alloc (.cells #[.int .i64 m, .int .i64 s] 23)
  go_enter Tryd.func12, Tryd.ntmps12
  have c3 := kp.at 1 (by omega) 3 rfl
  obtain ⟨p0, p1, p2, p3, p4⟩ := kd
  clear kp hp
  go_wp2_with fail
  refine (scaled_walk m s 3 _ h1 h2).mono ?_; rintro e w2 ⟨rfl, b2⟩
  replace kB := kB.trans (b2.mono kB.size)
  clear b2 c3 p0 p1 p2 p3 p4
  cases ho : scaledO m s 3 with
  | none =>
    have hr : Hid (secO m s = none) := by show _ = _; unfold secO; rw [ho]; rfl
    clear ho
    rw [show scaledV none = .tuple #[.int .i64 0, .bool false] from rfl]
    go_wp2_with fail
    go_ret2
    exact ⟨by rw [hr.out]; rfl, kB⟩
  | some t =>
    have hq : Hid (secO m s = timeO (some t)) := by show _ = _; unfold secO; rw [ho]
    clear ho
    rw [show scaledV (some t) = .tuple #[.int .i64 t, .bool true] from rfl]
    go_wp2_with fail
    refine (isTime_calls t _).mono ?_; rintro e w3 ⟨rfl, rfl⟩
    cases hx : isT t with
    | true =>
      have hr : Hid (secO m s = some t) := by show _ = _; rw [hq.out]; unfold timeO; simp [hx]
      clear hx
      go_wp2_with fail
      go_ret2
      exact ⟨by rw [hr.out]; rfl, kB⟩
    | false =>
      have hr : Hid (secO m s = none) := by show _ = _; rw [hq.out]; unfold timeO; simp [hx]
      clear hx
      go_wp2_with fail
      go_ret2
      exact ⟨by rw [hr.out]; rfl, kB⟩

set_option maxHeartbeats 2000000 in
theorem text_calls (x : Int) (w : World) (hp : Pl w) (h1 : -9223372036854775808 ≤ x) (h2 : x ≤ 9223372036854775807) :
    Calls Tryd.prog 14 #[.int .i64 x] w fun e w' => e = .returned (.string (str (textO x))) ∧ Below w.heap.size w w' := by
  go_enter Tryd.func14, Tryd.ntmps14
  go_wp2_with fail
  refine (seconds_calls x _ hp h1 h2).mono ?_; rintro e w1 ⟨rfl, kB⟩
  clear hp
  cases ho : sOf x with
  | none =>
    have hr : Hid (textO x = []) := by show _ = _; unfold textO; rw [ho]
    clear ho
    rw [show normV none = Value.tuple #[dv2 0 0, .bool false] from rfl]
    go_wp2_with fail
    go_ret
    exact ⟨by rw [hr.out]; rfl, kb_alloc kB (Nat.le_refl _) _⟩
  | some r =>
    obtain ⟨m, k⟩ := r
    obtain ⟨hm1, hm2⟩ := sOf_b ho
    have hr : Hid (textO x = printL m k) := by show _ = _; unfold textO; rw [ho]
    clear ho
    have kd := DecAt.new w1 m k
    rw [show normV (some (m, k)) = Value.tuple #[dv2 m k, .bool true] from rfl]
    have kB2 := kb_alloc kB (Nat.le_refl _) (.cells #[.int .i64 m, .int .i64 k] 23)
    obtain ⟨p0, p1, p2, p3, p4⟩ := kd
    go_wp2_with fail
    refine (print_calls m k _ hm1 hm2).mono ?_; rintro e w2 ⟨rfl, b2⟩
    go_wp2_with fail
    go_ret
    exact ⟨by rw [hr.out]; rfl, kB2.trans (b2.mono kB2.size)⟩

theorem of_bad {x u : Int} (h : sOf x = none ∨ isU u = false) : ofO x u = none := by
  unfold ofO
  rcases h with h | h
  · rw [h]
  · cases sOf x with
    | none => rfl
    | some p => obtain ⟨m, k⟩ := p; show (if isU u = true then scaledO m k (3 * u) else none) = none; rw [h]; rfl
set_option maxHeartbeats 2000000 in
theorem ms_calls (n u : Int) (w : World) (hp : Pl w) (h1 : -9223372036854775808 ≤ n) (h2 : n ≤ 9223372036854775807) :
    Calls Tryd.prog 16 #[.int .i64 n, .int .i64 u] w fun e w' => e = .returned (scaledV (msO n u)) ∧ Below w.heap.size w w' := by
  have b0 := Below.refl w.heap.size w
  go_enter Tryd.func16, Tryd.ntmps16
  go_wp2_with fail
  refine (isUnit_calls u _).mono ?_; rintro e w1 ⟨rfl, rfl⟩
  cases hu : isU u with
  | false =>
    have hr : Hid (msO n u = none) := by show _ = _; unfold msO; rw [hu]; rfl
    clear hu hp
    go_wp2_with fail
    go_ret2
    exact ⟨by rw [hr.out]; rfl, b0⟩
  | true =>
    obtain ⟨hu0, hu4⟩ := (isU_iff u).1 hu
    obtain ⟨k, rfl⟩ : ∃ k : Nat, u = k := ⟨u.toNat, by omega⟩
    have hk4 : k < 4 := by omega
    have hr : Hid (msO n k = match decOf (decide (n < 0)) n.natAbs (3 * (k : Int)) with | some (m, j) => secO m j | none => none) := by show _ = _; unfold msO; rw [if_pos hu]; rfl
    have c3 := hp.at k hk4 (3 * (k : Int)) (by omega)
    have hnorm := Lib.hid (fun W => norm_calls n (3 * (k : Int)) W h1 h2 (by omega))
    have hdb : Hid (∀ m j, decOf (decide (n < 0)) n.natAbs (3 * (k : Int)) = some (m, j) → -9223372036854775808 ≤ m ∧ m ≤ 9223372036854775807) := fun m j h => by
      obtain ⟨_, hb, _⟩ := decOf_is h; unfold big at hb; omega
    clear hu
    generalize decOf (decide (n < 0)) n.natAbs (3 * (k : Int)) = o at *
    obtain ⟨z, hz⟩ : ∃ z : Int, z = 3 * (k : Int) := ⟨_, rfl⟩
    rw [← hz] at c3 hnorm
    clear hz
    go_wp2_with fail
    refine (hnorm.out _).mono ?_; rintro e w2 ⟨rfl, kB⟩
    replace hp := hp.below kB
    clear c3 hnorm b0
    cases o with
    | none =>
      rw [show normV none = Value.tuple #[dv2 0 0, .bool false] from rfl]
      go_wp2_with fail
      go_ret2
      exact ⟨by rw [hr.out]; rfl, kb_alloc kB (Nat.le_refl _) _⟩
    | some r =>
      obtain ⟨m, j⟩ := r
      obtain ⟨hm1, hm2⟩ := hdb.out m j rfl
      have hr2 : Hid (msO n k = secO m j) := hr.out
      rw [show normV (some (m, j)) = Value.tuple #[dv2 m j, .bool true] from rfl]
      have kB2 := kb_alloc kB (Nat.le_refl _) (.cells #[.int .i64 m, .int .i64 j] 23)
      have hp2 := hp.alloc (.cells #[.int .i64 m, .int .i64 j] 23)
      have kd := DecAt.new w2 m j
      obtain ⟨p0, p1, p2, p3, p4⟩ := kd
      clear hdb hr hp
      go_wp2_with fail
      refine (sec_calls m j _ hp2 hm1 hm2).mono ?_; rintro e w3 ⟨rfl, b3⟩
      replace kB2 := kB2.trans (b3.mono kB2.size)
      rw [← hr2.out]
      clear hp2 p0 p1 p2 p3 p4 b3
      cases ho : msO n k with
      | none =>
        have Ho := Lib.hid ho
        clear ho
        rw [show scaledV none = .tuple #[.int .i64 0, .bool false] from rfl]
        go_wp2_with fail
        go_ret2
        exact ⟨by rw [Ho.out]; rfl, kB2⟩
      | some t =>
        have Ho := Lib.hid ho
        clear ho
        rw [show scaledV (some t) = .tuple #[.int .i64 t, .bool true] from rfl]
        go_wp2_with fail
        go_ret2
        exact ⟨by rw [Ho.out]; rfl, kB2⟩

set_option maxHeartbeats 4000000 in
theorem of_calls (x u : Int) (w : World) (hp : Pl w) (h1 : -9223372036854775808 ≤ x) (h2 : x ≤ 9223372036854775807) :
    Calls Tryd.prog 18 #[.int .i64 x, .int .i64 u] w fun e w' => e = .returned (scaledV (ofO x u)) ∧ Below w.heap.size w w' := by
  go_enter Tryd.func18, Tryd.ntmps18
  go_wp2_with fail
  refine (seconds_calls x _ hp h1 h2).mono ?_; rintro e w1 ⟨rfl, kB⟩
  replace hp := hp.below kB
  cases ho : sOf x with
  | none =>
    have hr : Hid (ofO x u = none) := of_bad (Or.inl ho)
    clear ho hp
    rw [show normV none = Value.tuple #[dv2 0 0, .bool false] from rfl]
    go_wp2_with fail
    go_ret2
    exact ⟨by rw [hr.out]; rfl, kb_alloc kB (Nat.le_refl _) _⟩
  | some r =>
    obtain ⟨m, j⟩ := r
    obtain ⟨hm1, hm2⟩ := sOf_b ho
    have kB2 := kb_alloc kB (Nat.le_refl _) (.cells #[.int .i64 m, .int .i64 j] 23)
    have hp2 := hp.alloc (.cells #[.int .i64 m, .int .i64 j] 23)
    have kd := DecAt.new w1 m j
    have Ho := Lib.hid ho
    clear ho
    rw [show normV (some (m, j)) = Value.tuple #[dv2 m j, .bool true] from rfl]
    go_wp2_with fail
    refine (isUnit_calls u _).mono ?_; rintro e w2 ⟨rfl, rfl⟩
    generalize w1.alloc (.cells #[.int .i64 m, .int .i64 j] 23) = W at *
    obtain ⟨p0, p1, p2, p3, p4⟩ := kd
    cases hu : isU u with
    | false =>
      have hr : Hid (ofO x u = none) := of_bad (Or.inr hu)
      clear hu hp hp2
      go_wp2_with fail
      go_ret2
      exact ⟨by rw [hr.out]; rfl, kB2⟩
    | true =>
      obtain ⟨hu0, hu4⟩ := (isU_iff u).1 hu
      obtain ⟨k, rfl⟩ : ∃ k : Nat, u = k := ⟨u.toNat, by omega⟩
      have hk4 : k < 4 := by omega
      have c3 := hp2.at k hk4 (3 * (k : Int)) (by omega)
      have hr : Hid (ofO x k = scaledO m j (3 * (k : Int))) := by show _ = _; unfold ofO; rw [Ho.out]; show (if isU (k : Int) = true then _ else _) = _; rw [if_pos hu]
      have hsc := Lib.hid (fun W => scaled_walk m j (3 * (k : Int)) W hm1 hm2)
      rw [← hr.out] at hsc
      have hroom := hp2.room
      clear hu hp hp2
      obtain ⟨z, hz⟩ : ∃ z : Int, z = 3 * (k : Int) := ⟨_, rfl⟩
      rw [← hz] at c3 hsc
      clear hz hr
      go_wp2_with fail
      have r0 : ∀ y, Below W.heap.size W y → y.cell? ⟨w1.heap.size, 0, none⟩ = some (.int .i64 m) := fun y hy => (hy.cell (p := ⟨w1.heap.size, 0, none⟩) p4).trans p0
      have r1 : ∀ y, Below W.heap.size W y → y.cell? ⟨w1.heap.size, 1, none⟩ = some (.int .i64 j) := fun y hy => (hy.cell (p := ⟨w1.heap.size, 1, none⟩) p4).trans p1
      have r3 : ∀ y, Below W.heap.size W y → y.cell? ⟨0, k, none⟩ = some (.int .i64 z) := fun y hy => (hy.cell (p := ⟨0, k, none⟩) hroom).trans c3
      cases ho : ofO x k with
      | none =>
        have Ho := Lib.hid ho
        rw [ho, show scaledV none = .tuple #[.int .i64 0, .bool false] from rfl] at hsc
        clear ho p0 p1 p2 p3 p4 c3 hroom
        go_region_held3 (fun y => Below W.heap.size W y)
          (((repeat' first | assumption | exact Below.refl _ _ | exact Nat.le_refl _ | apply kp_alloc | apply kp_set | apply Below.drew | omega); done))
          ((go_at_call 27; refine (hsc.out _).mono ?_; rintro e w3 ⟨rfl, b3⟩; have k3 : Below W.heap.size W w3 := (by refine trans9 ?_ b3; (repeat' first | assumption | exact Below.refl _ _ | exact Nat.le_refl _ | apply kp_alloc | apply kp_set | apply Below.drew | omega)); clear b3))
        all_goals
          go_wp2_with fail
          go_ret2
          exact ⟨by rw [Ho.out]; rfl, kB2.trans (k3.mono kB2.size)⟩
      | some t =>
        have Ho := Lib.hid ho
        rw [ho, show scaledV (some t) = .tuple #[.int .i64 t, .bool true] from rfl] at hsc
        clear ho p0 p1 p2 p3 p4 c3 hroom
        go_region_held3 (fun y => Below W.heap.size W y)
          (((repeat' first | assumption | exact Below.refl _ _ | exact Nat.le_refl _ | apply kp_alloc | apply kp_set | apply Below.drew | omega); done))
          ((go_at_call 27; refine (hsc.out _).mono ?_; rintro e w3 ⟨rfl, b3⟩; have k3 : Below W.heap.size W w3 := (by refine trans9 ?_ b3; (repeat' first | assumption | exact Below.refl _ _ | exact Nat.le_refl _ | apply kp_alloc | apply kp_set | apply Below.drew | omega)); clear b3))
        all_goals
          go_wp2_with fail
          go_ret2
          exact ⟨by rw [Ho.out]; rfl, kB2.trans (k3.mono kB2.size)⟩

end Go.Proofs.YtmbpldnclnahmaaDoor
