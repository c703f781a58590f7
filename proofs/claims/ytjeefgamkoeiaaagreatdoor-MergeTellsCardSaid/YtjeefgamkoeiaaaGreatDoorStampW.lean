/- The texts StampA, StampB, one behind the other. -/
import Derived.Test.YtjeefgamkoeiaaaGreatDoorDecP
import Derived.Test.YtjeefgamkoeiaaaGreatDoorDecW
import Derived.Test.YtjeefgamkoeiaaaGreatDoorGrd
import Derived.Test.YtjeefgamkoeiaaaGreatDoorSumJ
import Derived.OwnWalk
import Derived.Deep.DeepCutAuto
import Derived.Deep.WholeRow
import Derived.Lib.Builder
import Derived.Lib.SmallJoins
import Derived.Deep.RegionHeld3
import Derived.Deep.DrawnRows

/- The walks of package stamp's small functions: whole, Int, Uint, isTime, isUnit; the table of units. -/
set_option maxRecDepth 100000
set_option linter.unusedVariables false
set_option linter.unusedSimpArgs false
namespace Go.Proofs.YtjeefgamkoeiaaaGreatDoor
open Go.RowKit Dc

/-- the table of units, as it is laid -/
structure Pl (w : World) : Prop where
  cells : ∀ i : Nat, i < 4 → w.cell? ⟨2, i, none⟩ = some (.int .i64 (3 * i : Nat))
  room : 2 < w.heap.size
theorem Pl.below {w w' : World} (h : Pl w) (hb : Below w.heap.size w w') : Pl w' :=
  ⟨fun i hi => (hb.cell (p := ⟨2, i, none⟩) h.room).trans (h.cells i hi), Nat.lt_of_lt_of_le h.room hb.size⟩
theorem Pl.alloc {w : World} (h : Pl w) (o : Obj) : Pl (w.alloc o) := h.below ((Below.refl _ _).alloc (Nat.le_refl _) o)
theorem Pl.drew {w : World} (h : Pl w) : Pl w.drew := ⟨h.cells, h.room⟩

set_option maxHeartbeats 2000000 in
theorem isTime_calls (x : Int) (w : World) :
    Calls Tryz.prog 147 #[.int .i64 x] w fun e w' => e = .returned (.bool (isT x)) ∧ w = w' := by
  by_cases h1 : -1125899906842624 ≤ x
  · by_cases h2 : x ≤ 1125899906842624
    · have e : isT x = true := (isT_iff x).2 ⟨h1, h2⟩
      rw [e]; clear e
      go_enter Tryz.func147, Tryz.ntmps147
      go_wp2
      go_ret
      exact ⟨rfl, rfl⟩
    · have e : isT x = false := by unfold isT; simp; omega
      rw [e]; clear e
      go_enter Tryz.func147, Tryz.ntmps147
      go_wp2
      go_ret
      exact ⟨rfl, rfl⟩
  · have e : isT x = false := by unfold isT; simp; omega
    rw [e]; clear e
    go_enter Tryz.func147, Tryz.ntmps147
    go_wp2
    go_ret
    exact ⟨rfl, rfl⟩
set_option maxHeartbeats 2000000 in
theorem isUnit_calls (x : Int) (w : World) :
    Calls Tryz.prog 141 #[.int .i64 x] w fun e w' => e = .returned (.bool (isU x)) ∧ w = w' := by
  by_cases h1 : 0 ≤ x
  · by_cases h2 : x < 4
    · have e : isU x = true := (isU_iff x).2 ⟨h1, h2⟩
      rw [e]; clear e
      go_enter Tryz.func141, Tryz.ntmps141
      go_wp2
      go_ret
      exact ⟨rfl, rfl⟩
    · have e : isU x = false := by unfold isU; simp; omega
      rw [e]; clear e
      go_enter Tryz.func141, Tryz.ntmps141
      go_wp2
      go_ret
      exact ⟨rfl, rfl⟩
  · have e : isU x = false := by unfold isU; simp; omega
    rw [e]; clear e
    go_enter Tryz.func141, Tryz.ntmps141
    go_wp2
    go_ret
    exact ⟨rfl, rfl⟩

end Go.Proofs.YtjeefgamkoeiaaaGreatDoor

/- The walks of package stamp's times: seconds, Seconds, Text, Ms, Of. -/
set_option maxRecDepth 100000
set_option linter.unusedVariables false
set_option linter.unusedSimpArgs false
namespace Go.Proofs.YtjeefgamkoeiaaaGreatDoor
open Go.RowKit Dc
attribute [local go_sem ↓] Go.wp_at_zero Go.wp_at_succ

theorem Pl.at {w : World} (h : Pl w) (i : Nat) (hi : i < 4) (z : Int) (hz : z = (3 * i : Nat)) : w.cell? ⟨2, i, none⟩ = some (.int .i64 z) := by rw [hz]; exact h.cells i hi
set_option maxHeartbeats 2000000 in
theorem sec_calls (m s : Int) (w : World) (hp : Pl w) (h1 : -9223372036854775808 ≤ m) (h2 : m ≤ 9223372036854775807) :
    Calls Tryz.prog 143 #[dv2 m s] w fun e w' => e = .returned (scaledV (secO m s)) ∧ Below w.heap.size w w' := by
  have kB := kb_alloc (Below.refl w.heap.size w) (Nat.le_refl _) (.cells #[.int .i64 m, .int .i64 s] 51)
  have kd := DecAt.new w m s
  have kp := hp.alloc (.cells #[.int .i64 m, .int .i64 s] 51)
  go_enter Tryz.func143, Tryz.ntmps143
  have c3 := kp.at 1 (by omega) 3 rfl
  obtain ⟨p0, p1, p2, p3, p4⟩ := kd
  clear kp hp
  go_wp2_with fail
  refine (scaled_walk m s 3 _ h1 h2).mono ?_; rintro e w2 ⟨rfl, b2⟩
  replace kB := kB.trans (b2.mono kB.size)
  clear b2 c3 p0 p1 p2 p3 p4
  cases ho : scaledO m s 3 with
  | none =>
    have hr : Hid (secO m s = none) := by show _ = _; unfold secO; rw [ho]; rfl
    clear ho
    rw [show scaledV none = .tuple #[.int .i64 0, .bool false] from rfl]
    go_wp2_with fail
    go_ret2
    exact ⟨by rw [hr.out]; rfl, kB⟩
  | some t =>
    have hq : Hid (secO m s = timeO (some t)) := by show _ = _; unfold secO; rw [ho]
    clear ho
    rw [show scaledV (some t) = .tuple #[.int .i64 t, .bool true] from rfl]
    go_wp2_with fail
    refine (isTime_calls t _).mono ?_; rintro e w3 ⟨rfl, rfl⟩
    cases hx : isT t with
    | true =>
      have hr : Hid (secO m s = some t) := by show _ = _; rw [hq.out]; unfold timeO; simp [hx]
      clear hx
      go_wp2_with fail
      go_ret2
      exact ⟨by rw [hr.out]; rfl, kB⟩
    | false =>
      have hr : Hid (secO m s = none) := by show _ = _; rw [hq.out]; unfold timeO; simp [hx]
      clear hx
      go_wp2_with fail
      go_ret2
      exact ⟨by rw [hr.out]; rfl, kB⟩

set_option maxHeartbeats 2000000 in
theorem ms_calls (n u : Int) (w : World) (hp : Pl w) (h1 : -9223372036854775808 ≤ n) (h2 : n ≤ 9223372036854775807) :
    Calls Tryz.prog 132 #[.int .i64 n, .int .i64 u] w fun e w' => e = .returned (scaledV (msO n u)) ∧ Below w.heap.size w w' := by
  have b0 := Below.refl w.heap.size w
  go_enter Tryz.func132, Tryz.ntmps132
  go_wp2_with fail
  refine (isUnit_calls u _).mono ?_; rintro e w1 ⟨rfl, rfl⟩
  cases hu : isU u with
  | false =>
    have hr : Hid (msO n u = none) := by show _ = _; unfold msO; rw [hu]; rfl
    clear hu hp
    go_wp2_with fail
    go_ret2
    exact ⟨by rw [hr.out]; rfl, b0⟩
  | true =>
    obtain ⟨hu0, hu4⟩ := (isU_iff u).1 hu
    obtain ⟨k, rfl⟩ : ∃ k : Nat, u = k := ⟨u.toNat, by omega⟩
    have hk4 : k < 4 := by omega
    have hr : Hid (msO n k = match decOf (decide (n < 0)) n.natAbs (3 * (k : Int)) with | some (m, j) => secO m j | none => none) := by show _ = _; unfold msO; rw [if_pos hu]; rfl
    have c3 := hp.at k hk4 (3 * (k : Int)) (by omega)
    have hnorm := Lib.hid (fun W => norm_calls n (3 * (k : Int)) W h1 h2 (by omega))
    have hdb : Hid (∀ m j, decOf (decide (n < 0)) n.natAbs (3 * (k : Int)) = some (m, j) → -9223372036854775808 ≤ m ∧ m ≤ 9223372036854775807) := fun m j h => by
      obtain ⟨_, hb, _⟩ := decOf_is h; unfold big at hb; omega
    clear hu
    generalize decOf (decide (n < 0)) n.natAbs (3 * (k : Int)) = o at *
    obtain ⟨z, hz⟩ : ∃ z : Int, z = 3 * (k : Int) := ⟨_, rfl⟩
    rw [← hz] at c3 hnorm
    clear hz
    go_wp2_with fail
    refine (hnorm.out _).mono ?_; rintro e w2 ⟨rfl, kB⟩
    replace hp := hp.below kB
    clear c3 hnorm b0
    cases o with
    | none =>
      rw [show normV none = Value.tuple #[dv2 0 0, .bool false] from rfl]
      go_wp2_with fail
      go_ret2
      exact ⟨by rw [hr.out]; rfl, kb_alloc kB (Nat.le_refl _) _⟩
    | some r =>
      obtain ⟨m, j⟩ := r
      obtain ⟨hm1, hm2⟩ := hdb.out m j rfl
      have hr2 : Hid (msO n k = secO m j) := hr.out
      rw [show normV (some (m, j)) = Value.tuple #[dv2 m j, .bool true] from rfl]
      have kB2 := kb_alloc kB (Nat.le_refl _) (.cells #[.int .i64 m, .int .i64 j] 51)
      have hp2 := hp.alloc (.cells #[.int .i64 m, .int .i64 j] 51)
      have kd := DecAt.new w2 m j
      obtain ⟨p0, p1, p2, p3, p4⟩ := kd
      clear hdb hr hp
      go_wp2_with fail
      refine (sec_calls m j _ hp2 hm1 hm2).mono ?_; rintro e w3 ⟨rfl, b3⟩
      replace kB2 := kB2.trans (b3.mono kB2.size)
      rw [← hr2.out]
      clear hp2 p0 p1 p2 p3 p4 b3
      cases ho : msO n k with
      | none =>
        have Ho := Lib.hid ho
        clear ho
        rw [show scaledV none = .tuple #[.int .i64 0, .bool false] from rfl]
        go_wp2_with fail
        go_ret2
        exact ⟨by rw [Ho.out]; rfl, kB2⟩
      | some t =>
        have Ho := Lib.hid ho
        clear ho
        rw [show scaledV (some t) = .tuple #[.int .i64 t, .bool true] from rfl]
        go_wp2_with fail
        go_ret2
        exact ⟨by rw [Ho.out]; rfl, kB2⟩

end Go.Proofs.YtjeefgamkoeiaaaGreatDoor
