/- The walks of package stamp's small functions: whole, Int, Uint, isTime, isUnit; the table of units. -/
import Derived.Test.YtmbpldnclnahmaaDoorStampPlain
import Derived.Test.YtmbpldnclnahmaaDoorDecG
import Derived.Test.YtmbpldnclnahmaaDoorDecAt
import Derived.Test.YtmbpldnclnahmaaDoorSumS
import Derived.OwnWalk
set_option maxRecDepth 100000
set_option linter.unusedVariables false
set_option linter.unusedSimpArgs false
namespace Go.Proofs.YtmbpldnclnahmaaDoor
open Go.RowKit Dc

/-- the table of units, as it is laid -/
structure Pl (w : World) : Prop where
  cells : ∀ i : Nat, i < 4 → w.cell? ⟨0, i, none⟩ = some (.int .i64 (3 * i : Nat))
  room : 0 < w.heap.size
theorem Pl.below {w w' : World} (h : Pl w) (hb : Below w.heap.size w w') : Pl w' :=
  ⟨fun i hi => (hb.cell (p := ⟨0, i, none⟩) h.room).trans (h.cells i hi), Nat.lt_of_lt_of_le h.room hb.size⟩
theorem Pl.alloc {w : World} (h : Pl w) (o : Obj) : Pl (w.alloc o) := h.below ((Below.refl _ _).alloc (Nat.le_refl _) o)
theorem Pl.drew {w : World} (h : Pl w) : Pl w.drew := ⟨h.cells, h.room⟩

/-- a whole number, as Int tells it -/
def intV (r : Int × Int × Int) : Value := .tuple #[.int .i64 r.1, .int .i64 r.2.1, .int .i64 r.2.2]

set_option maxHeartbeats 2000000 in
theorem isTime_calls (x : Int) (w : World) :
    Calls Tryd.prog 28 #[.int .i64 x] w fun e w' => e = .returned (.bool (isT x)) ∧ w = w' := by
  by_cases h1 : -1125899906842624 ≤ x
  · by_cases h2 : x ≤ 1125899906842624
    · have e : isT x = true := (isT_iff x).2 ⟨h1, h2⟩
      rw [e]; clear e
      go_enter Tryd.func28, Tryd.ntmps28
      go_wp2
      go_ret
      exact ⟨rfl, rfl⟩
    · have e : isT x = false := by unfold isT; simp; omega
      rw [e]; clear e
      go_enter Tryd.func28, Tryd.ntmps28
      go_wp2
      go_ret
      exact ⟨rfl, rfl⟩
  · have e : isT x = false := by unfold isT; simp; omega
    rw [e]; clear e
    go_enter Tryd.func28, Tryd.ntmps28
    go_wp2
    go_ret
    exact ⟨rfl, rfl⟩
set_option maxHeartbeats 2000000 in
theorem isUnit_calls (x : Int) (w : World) :
    Calls Tryd.prog 33 #[.int .i64 x] w fun e w' => e = .returned (.bool (isU x)) ∧ w = w' := by
  by_cases h1 : 0 ≤ x
  · by_cases h2 : x < 4
    · have e : isU x = true := (isU_iff x).2 ⟨h1, h2⟩
      rw [e]; clear e
      go_enter Tryd.func33, Tryd.ntmps33
      go_wp2
      go_ret
      exact ⟨rfl, rfl⟩
    · have e : isU x = false := by unfold isU; simp; omega
      rw [e]; clear e
      go_enter Tryd.func33, Tryd.ntmps33
      go_wp2
      go_ret
      exact ⟨rfl, rfl⟩
  · have e : isU x = false := by unfold isU; simp; omega
    rw [e]; clear e
    go_enter Tryd.func33, Tryd.ntmps33
    go_wp2
    go_ret
    exact ⟨rfl, rfl⟩

theorem drop_str (l : List UInt8) (k : Nat) (h : k < (str l).size) : l.drop k = (str l)[k] :: l.drop (k + 1) := by
  have hl : k < l.length := by rw [str_size] at h; exact h
  rw [List.drop_eq_getElem_cons hl]; rfl
set_option maxHeartbeats 4000000 in
theorem whole_calls (l : List UInt8) (k : Nat) (w : World) (hl : l.length ≤ 140737488351232) (hk : k ≤ l.length) :
    Calls Tryd.prog 23 #[.string (str l), .int .i64 (k : Nat)] w fun e w' => e = .returned (intV (wholeO l k)) ∧ Below w.heap.size w w' := by
  have hsz := str_size l
  have hp := Lib.hid (fun W => parse_calls l W hl)
  have b0 := Lib.hid (Below.refl w.heap.size w)
  go_enter Tryd.func23, Tryd.ntmps23
  go_wp2_with fail
  go_loop [7] (fun v => ∃ j : Nat, j ≤ l.length ∧ v = .int .i64 (j : Nat) ∧ Hid (k + dgN (l.drop k) = j + dgN (l.drop j))) (fun v => l.length - (intOf v).toNat)
  case atStart => exact ⟨k, hk, rfl, rfl⟩
  case round =>
    obtain ⟨j, hj, rfl, H⟩ := hrel
    by_cases hjl : j < l.length
    · have hat := str_at l j (by rw [hsz]; exact hjl)
      have hd := Lib.hid (drop_str l j (by rw [hsz]; exact hjl))
      have hin : j < (str l).size := by rw [hsz]; exact hjl
      have hb := UInt8.toNat_lt ((str l)[j])
      by_cases h1 : 48 ≤ ((str l)[j]).toNat
      · by_cases h2 : ((str l)[j]).toNat ≤ 57
        · have hg := Lib.hid ((dg_iff ((str l)[j])).2 ⟨h1, h2⟩)
          clear hat
          go_wp2_with fail
          go_round
          case rel => exact ⟨j + 1, hjl, by go_num, by have h := H.out; rw [hd.out, dgN_cons, if_pos hg.out] at h; show _ = _; omega⟩
          case measure => simp [intOf]; omega
        · have hg : Hid (dg ((str l)[j]) = false) := by show _ = _; unfold dg; simp; omega
          have hres : Hid (wholeO l k = (0, 11, (j : Int))) := by
            have h := H.out
            rw [hd.out, dgN_cons, if_neg (by rw [hg.out]; simp)] at h
            show _ = _; unfold wholeO
            rw [if_pos (by omega), h]; rfl
          clear hat hg hd
          go_wp2_with fail
          go_ret3
          exact ⟨by rw [hres.out]; rfl, b0.out⟩
      · have hg : Hid (dg ((str l)[j]) = false) := by show _ = _; unfold dg; simp; omega
        have hres : Hid (wholeO l k = (0, 11, (j : Int))) := by
          have h := H.out
          rw [hd.out, dgN_cons, if_neg (by rw [hg.out]; simp)] at h
          show _ = _; unfold wholeO
          rw [if_pos (by omega), h]; rfl
        clear hat hg hd
        go_wp2_with fail
        go_ret3
        exact ⟨by rw [hres.out]; rfl, b0.out⟩
    · obtain rfl : j = l.length := by omega
      have hres : Hid (wholeO l k = ((parse l).1.1, (parse l).2.1, (parse l).2.2)) := by
        have h := H.out
        rw [List.drop_length, show dgN [] = 0 from rfl] at h
        show _ = _; unfold wholeO
        rw [if_neg (by omega)]
      clear H
      go_wp2_with fail
      refine (hp.out _).mono ?_; rintro e w1 ⟨rfl, b1⟩
      have kB := b0.out.trans (b1.mono (Nat.le_refl _))
      clear b1 hp
      generalize parse l = r at *
      obtain ⟨⟨m, s⟩, c, at'⟩ := r
      unfold parseV
      go_wp2_with fail
      go_ret3
      exact ⟨by rw [hres.out]; rfl, kb_alloc kB (Nat.le_refl _) _⟩

set_option maxHeartbeats 2000000 in
theorem int_calls (l : List UInt8) (w : World) (hl : l.length ≤ 140737488351232) :
    Calls Tryd.prog 8 #[.string (str l)] w fun e w' => e = .returned (intV (intO l)) ∧ Below w.heap.size w w' := by
  rw [← whole_int]
  have hsz := str_size l
  rcases sg_cases l with ⟨r, hr, hs⟩ | ⟨hs, hr⟩
  · have hc := Lib.hid (fun W => whole_calls l 1 W hl (by rw [hr]; simp))
    rw [hs]
    generalize wholeO l 1 = q at *
    obtain ⟨q1, q2, q3⟩ := q
    subst hr
    have h0 : 0 < (str (45 :: r)).size := by rw [hsz]; simp
    have hlp : 0 < (45 :: r).length := by simp
    have hat := str_head 45 r h0
    have hn : ((str (45 :: r))[0]).toNat = 45 := by rw [hat]; rfl
    clear hat hs
    go_enter Tryd.func8, Tryd.ntmps8
    go_wp2_with fail
    refine (hc.out _).mono ?_; rintro e w1 ⟨rfl, b1⟩
    unfold intV
    go_wp2_with fail
    go_ret3
    exact ⟨rfl, b1⟩
  · have hc := Lib.hid (fun W => whole_calls l 0 W hl (Nat.zero_le _))
    rw [hs]
    generalize wholeO l 0 = q at *
    obtain ⟨q1, q2, q3⟩ := q
    cases l with
    | nil =>
      clear hr hs
      have hlp : ¬ 0 < ([] : List UInt8).length := by simp
      go_enter Tryd.func8, Tryd.ntmps8
      go_wp2_with fail
      refine (hc.out _).mono ?_; rintro e w1 ⟨rfl, b1⟩
      unfold intV
      go_wp2_with fail
      go_ret3
      exact ⟨rfl, b1⟩
    | cons c0 t =>
      have h0 : 0 < (str (c0 :: t)).size := by rw [hsz]; simp
      have hlp : 0 < (c0 :: t).length := by simp
      have hne : ¬ c0.toNat = 45 := fun e => hr t (by rw [show c0 = 45 from UInt8.toNat_inj.1 e])
      have hat := str_head c0 t h0
      have hn : ¬ ((str (c0 :: t))[0]).toNat = 45 := by rw [hat]; exact hne
      have hnI : ¬ (((str (c0 :: t))[0]).toNat : Int) = 45 := by omega
      have hnb : ((((str (c0 :: t))[0]).toNat : Int) == 45) = false := by simpa using hnI
      clear hat hs hr hne
      go_enter Tryd.func8, Tryd.ntmps8
      go_wp2_with fail
      refine (hc.out _).mono ?_; rintro e w1 ⟨rfl, b1⟩
      unfold intV
      go_wp2_with fail
      go_ret3
      exact ⟨rfl, b1⟩
set_option maxHeartbeats 2000000 in
theorem uint_calls (l : List UInt8) (w : World) (hl : l.length ≤ 140737488351232) :
    Calls Tryd.prog 10 #[.string (str l)] w fun e w' => e = .returned (intV (uintO l)) ∧ Below w.heap.size w w' := by
  rw [← whole_uint]
  have hc := Lib.hid (fun W => whole_calls l 0 W hl (Nat.zero_le _))
  generalize wholeO l 0 = q at *
  obtain ⟨q1, q2, q3⟩ := q
  go_enter Tryd.func10, Tryd.ntmps10
  go_wp2_with fail
  refine (hc.out _).mono ?_; rintro e w1 ⟨rfl, b1⟩
  unfold intV
  go_wp2_with fail
  go_ret3
  exact ⟨rfl, b1⟩

end Go.Proofs.YtmbpldnclnahmaaDoor
