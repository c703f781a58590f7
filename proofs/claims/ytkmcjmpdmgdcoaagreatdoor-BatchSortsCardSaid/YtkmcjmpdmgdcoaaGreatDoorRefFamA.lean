/- The walks of the reference's flag, ComparePoints. -/
import Derived.Test.YtkmcjmpdmgdcoaaGreatDoorFamPlain
import Derived.Test.YtkmcjmpdmgdcoaaGreatDoorPointW
import Derived.Test.YtkmcjmpdmgdcoaaGreatDoorRefLabelW
import Derived.Test.YtkmcjmpdmgdcoaaGreatDoorRefSumW
set_option maxRecDepth 100000
set_option linter.unusedVariables false
set_option linter.unusedSimpArgs false
namespace Go.Proofs.YtkmcjmpdmgdcoaaGreatDoor
open Go.RowKit Dc
attribute [local go_sem ↓] Go.wp_at_zero Go.wp_at_succ

def flI (b : Bool) : Int := if b = true then 1 else 0
theorem rflag_calls (b : Bool) (w : World) : Calls Tryz.prog 52 #[.bool b] w fun e w' => e = .returned (.int .i64 (flI b)) ∧ w = w' := by
  cases b
  all_goals
    go_enter Tryz.func52, Tryz.ntmps52
    go_wp2
    go_ret
    exact ⟨rfl, rfl⟩
theorem nu_ord (a b : Int) : nuI a b = ord3 a b := rfl
theorem nu_flag (a b : Bool) : nuI (flI a) (flI b) = ffI a b := by cases a <;> cases b <;> decide
/-- four pairs of numbers in a block -/
structure Arr8 (w : World) (g : Nat) (a0 b0 a1 b1 a2 b2 a3 b3 : Int) : Prop where
  c0 : w.cell? ⟨g, 0, none⟩ = some (.int .i64 a0)
  c1 : w.cell? ⟨g, 1, none⟩ = some (.int .i64 b0)
  c2 : w.cell? ⟨g, 2, none⟩ = some (.int .i64 a1)
  c3 : w.cell? ⟨g, 3, none⟩ = some (.int .i64 b1)
  c4 : w.cell? ⟨g, 4, none⟩ = some (.int .i64 a2)
  c5 : w.cell? ⟨g, 5, none⟩ = some (.int .i64 b2)
  c6 : w.cell? ⟨g, 6, none⟩ = some (.int .i64 a3)
  c7 : w.cell? ⟨g, 7, none⟩ = some (.int .i64 b3)
  lt : g < w.heap.size
theorem Arr8.new (w : World) (a0 b0 a1 b1 a2 b2 a3 b3 : Int) (t : TypeId) : Arr8 (w.alloc (.cells #[.int .i64 a0, .int .i64 b0, .int .i64 a1, .int .i64 b1, .int .i64 a2, .int .i64 b2, .int .i64 a3, .int .i64 b3] t)) w.heap.size a0 b0 a1 b1 a2 b2 a3 b3 :=
  ⟨by simp, by simp, by simp, by simp, by simp, by simp, by simp, by simp, by simp⟩
theorem Arr8.drew {w : World} {g : Nat} {a0 b0 a1 b1 a2 b2 a3 b3 : Int} (h : Arr8 w g a0 b0 a1 b1 a2 b2 a3 b3) : Arr8 w.drew g a0 b0 a1 b1 a2 b2 a3 b3 := ⟨h.c0, h.c1, h.c2, h.c3, h.c4, h.c5, h.c6, h.c7, h.lt⟩
theorem Arr8.below {w w' : World} {g : Nat} {a0 b0 a1 b1 a2 b2 a3 b3 : Int} (h : Arr8 w g a0 b0 a1 b1 a2 b2 a3 b3) (hb : Below w.heap.size w w') : Arr8 w' g a0 b0 a1 b1 a2 b2 a3 b3 :=
  ⟨(hb.cell h.lt).trans h.c0, (hb.cell h.lt).trans h.c1, (hb.cell h.lt).trans h.c2, (hb.cell h.lt).trans h.c3, (hb.cell h.lt).trans h.c4, (hb.cell h.lt).trans h.c5, (hb.cell h.lt).trans h.c6, (hb.cell h.lt).trans h.c7, Nat.lt_of_lt_of_le h.lt hb.size⟩
theorem orL_one (x : Int) : orL [x] = x := by
  rw [orL]
  split
  · rename_i h; rw [h]; rfl
  · rfl

set_option maxHeartbeats 8000000 in
theorem rcomparepoints_calls (v u : Value) (p q : Pt) (w : World) (hv : LbRow w v p.l) (hu : LbRow w u q.l) (hp : PtIn p) (hq : PtIn q) :
    Calls Tryz.prog 33 #[ptv v p, ptv u q] w fun e w' => e = .returned (.int .i64 (cmpP p q)) ∧ Below w.heap.size w w' := by
  obtain ⟨pl, ro, inf, bm, bs, m, s, td, ti⟩ := p
  obtain ⟨ql, ro2, inf2, bm2, bs2, m2, s2, td2, ti2⟩ := q
  have hb0 : Below w.heap.size w ((w.alloc (.cells (ptc v ⟨pl, ro, inf, bm, bs, m, s, td, ti⟩) 46)).alloc (.cells (ptc u ⟨ql, ro2, inf2, bm2, bs2, m2, s2, td2, ti2⟩) 46)) := kp_alloc (kp_alloc (Below.refl _ _) _) _
  have P1 := (PtAt.new w v ⟨pl, ro, inf, bm, bs, m, s, td, ti⟩ 46).alloc (.cells (ptc u ⟨ql, ro2, inf2, bm2, bs2, m2, s2, td2, ti2⟩) 46)
  have P2 := PtAt.new (w.alloc (.cells (ptc v ⟨pl, ro, inf, bm, bs, m, s, td, ti⟩) 46)) u ⟨ql, ro2, inf2, bm2, bs2, m2, s2, td2, ti2⟩ 46
  rw [show (w.alloc (.cells (ptc v ⟨pl, ro, inf, bm, bs, m, s, td, ti⟩) 46)).heap.size = w.heap.size + 1 by simp] at P2
  have HL := Lib.hid (rlcompare_calls pl ql v u _ (hv.below hb0) (hu.below hb0))
  have HC := Lib.hid (fun W => rcmp_walk bm bs bm2 bs2 W hp.bm1 hp.bm2 hq.bm1 hq.bm2)
  have HF1 := Lib.hid (fun W => rflag_calls td W)
  have HF2 := Lib.hid (fun W => rflag_calls td2 W)
  have HF3 := Lib.hid (fun W => rflag_calls inf W)
  have HF4 := Lib.hid (fun W => rflag_calls inf2 W)
  rw [show cmpP ⟨pl, ro, inf, bm, bs, m, s, td, ti⟩ ⟨ql, ro2, inf2, bm2, bs2, m2, s2, td2, ti2⟩ = orL [cmpL pl ql, ffI td td2, ord3 ti ti2, ord3 ro ro2, ffI inf inf2, cmpO bm bs bm2 bs2] from rfl]
  rw [← nu_flag, ← nu_flag, ← nu_ord, ← nu_ord]
  have HN1 := Lib.hid (fun W => rnumber_calls (flI td) (flI td2) W)
  have HN2 := Lib.hid (fun W => rnumber_calls ti ti2 W)
  have HN3 := Lib.hid (fun W => rnumber_calls ro ro2 W)
  have HN4 := Lib.hid (fun W => rnumber_calls (flI inf) (flI inf2) W)
  generalize cmpO bm bs bm2 bs2 = r5 at *
  generalize nuI (flI td) (flI td2) = r1 at *
  generalize nuI (flI inf) (flI inf2) = r4 at *
  generalize nuI ti ti2 = r2 at *
  generalize nuI ro ro2 = r3 at *
  generalize cmpL pl ql = r0 at *
  generalize flI td = t1 at *
  generalize flI td2 = t2 at *
  generalize flI inf = i1 at *
  generalize flI inf2 = i2 at *
  obtain ⟨r, hr⟩ : ∃ r, r = orL [r0, r1, r2, r3, r4, r5] := ⟨_, rfl⟩
  rw [← hr]
  have HR := Lib.hid hr
  have HB := Lib.hid hb0
  have HP1 := Lib.hid P1
  have HP2 := Lib.hid P2
  dsimp only at hv hu
  obtain ⟨A, cap, rfl, _⟩ := hv
  obtain ⟨A2, cap2, rfl, _⟩ := hu
  generalize pl.length = n at *
  generalize ql.length = n2 at *
  clear hp hq hb0 hr P1 P2
  go_enter Tryz.func33, Tryz.ntmps33
  go_wp2_with fail
  refine HL.out.mono ?_; rintro e w1 ⟨rfl, b1⟩
  have K1 := Lib.hid (trans9 HB.out b1)
  have Q1 := Lib.hid (HP1.out.below b1)
  have Q2 := Lib.hid (HP2.out.below b1)
  clear HL HP1 HP2 b1 HB
  by_cases h0 : r0 = 0
  · have hd0 := Lib.hid (orL_yes (k := 0) (x := r0) (by rfl) rfl h0 : orL [r0, r1, r2, r3, r4, r5] = _)
    subst h0
    obtain ⟨x0, x1, x2, x3, x4, x5, x6, x7, x8, xf, xl⟩ := Q1.out
    obtain ⟨y0, y1, y2, y3, y4, y5, y6, y7, y8, yf, yl⟩ := Q2.out
    dsimp only at x1 x2 x3 x4 x7 x8 y1 y2 y3 y4 y7 y8
    go_upto_region 4 with fail
    have hX : ∀ o v, w1.cell? ⟨w.heap.size, o, none⟩ = some v → ∀ z, Below w1.heap.size w1 z → z.cell? ⟨w.heap.size, o, none⟩ = some v := fun o v h z hz => (hz.cell (p := ⟨w.heap.size, o, none⟩) xl).trans h
    have hY : ∀ o v, w1.cell? ⟨w.heap.size + 1, o, none⟩ = some v → ∀ z, Below w1.heap.size w1 z → z.cell? ⟨w.heap.size + 1, o, none⟩ = some v := fun o v h z hz => (hz.cell (p := ⟨w.heap.size + 1, o, none⟩) yl).trans h
    go_cut [6] (fun s6 wx => ∃ g : Nat, s6 = .pointer (some ⟨g, 0, none⟩) ∧ Below w1.heap.size w1 wx ∧ Arr8 wx g t1 t2 ti ti2 ro ro2 i1 i2)
    case first =>
      have a1 := hX _ _ x1
      have a2 := hX _ _ x2
      have a7 := hX _ _ x7
      have a8 := hX _ _ x8
      have e1 := hY _ _ y1
      have e2 := hY _ _ y2
      have e7 := hY _ _ y7
      have e8 := hY _ _ y8
      clear x0 x1 x2 x3 x4 x5 x6 x7 x8 xf y0 y1 y2 y3 y4 y5 y6 y7 y8 yf hX hY HC HN1 HN2 HN3 HN4
      go_region_held3 (fun z => Below w1.heap.size w1 z)
        (((repeat' first | assumption | exact Below.refl _ _ | exact Nat.le_refl _ | apply kp_alloc | apply kp_set | apply Below.drew | omega); done))
        ((first
          | (go_at_call_of 52 (Value.bool td); refine (HF1.out _).mono ?_; rintro e w3 ⟨rfl, rfl⟩)
          | (go_at_call_of 52 (Value.bool td2); refine (HF2.out _).mono ?_; rintro e w4 ⟨rfl, rfl⟩)
          | (go_at_call_of 52 (Value.bool inf); refine (HF3.out _).mono ?_; rintro e w5 ⟨rfl, rfl⟩)
          | (go_at_call_of 52 (Value.bool inf2); refine (HF4.out _).mono ?_; rintro e w6 ⟨rfl, rfl⟩)))
      all_goals
        go_wp2_with fail
        go_meet
        exact ⟨_, rfl, by first | exact (kp_alloc (Below.refl _ _) _).drew | exact kp_alloc (Below.refl _ _).drew _, by first | exact (Arr8.new _ _ _ _ _ _ _ _ _ _).drew | exact Arr8.new _ _ _ _ _ _ _ _ _ _⟩
    case rest =>
      obtain ⟨g, rfl, bG, hA⟩ := hcut
      have BG := Lib.hid (trans9 K1.out bG)
      have HA := Lib.hid hA
      have HQ1 := Lib.hid (Q1.out.below bG)
      have HQ2 := Lib.hid (Q2.out.below bG)
      clear x0 x1 x2 x3 x4 x5 x6 x7 x8 xf y0 y1 y2 y3 y4 y5 y6 y7 y8 yf hX hY xl yl bG hA HF1 HF2 HF3 HF4
      go_wp2_with fail
      go_loopw [7] (fun v wr => ∃ k : Nat, k ≤ 4 ∧ v = .int .i64 (k : Nat) ∧ Hid (orL [0, r1, r2, r3, r4, r5] = orL (([0, r1, r2, r3, r4, r5] : List Int).drop (k + 1))) ∧ Below wc.heap.size wc wr) (fun v _ => 4 - (intOf v).toNat)
      case atStart => exact ⟨0, Nat.zero_le _, rfl, hd0.out, Below.refl _ _⟩
      case round =>
        obtain ⟨k, hk, rfl, H, hb⟩ := hrel
        have HB := Lib.hid hb
        obtain ⟨c0, c1, c2, c3, c4, c5, c6, c7, hlt⟩ := HA.out.below hb
        have hk5 : k = 0 ∨ k = 1 ∨ k = 2 ∨ k = 3 ∨ k = 4 := by omega
        clear hk hb
        rcases hk5 with rfl | rfl | rfl | rfl | rfl
        · rw [show ((0 : Nat) : Int) = 0 from rfl]
          by_cases hz : r1 = 0
          · have hr := Lib.hid (orL_yes (k := 1) (x := r1) (by rfl) H.out hz)
            rw [hz] at HN1
            clear H hz
            go_wp2_with fail
            go_quiet ((go_at_call 53; exact Calls.quiet_of_same ((HN1.out _).mono fun _ _ h => ⟨h.1, h.2.symm⟩)))
            go_wp2_with fail
            go_roundw
            case rel => exact ⟨1, by omega, rfl, hr.out, below_drewN HB.out _⟩
            case measure => simp [intOf]
          · have hr := Lib.hid (orL_no (k := 1) (x := r1) (by rfl) H.out hz)
            have dz : (r1 == 0) = false := by simpa using hz
            clear H hz
            go_wp2_with fail
            go_quiet ((go_at_call 53; exact Calls.quiet_of_same ((HN1.out _).mono fun _ _ h => ⟨h.1, h.2.symm⟩)))
            go_wp2_with fail
            go_ret
            exact ⟨by rw [HR.out, hr.out]; rfl, below_drewN (trans9 BG.out HB.out) _⟩
        · rw [show ((1 : Nat) : Int) = 1 from rfl]
          by_cases hz : r2 = 0
          · have hr := Lib.hid (orL_yes (k := 2) (x := r2) (by rfl) H.out hz)
            rw [hz] at HN2
            clear H hz
            go_wp2_with fail
            go_quiet ((go_at_call 53; exact Calls.quiet_of_same ((HN2.out _).mono fun _ _ h => ⟨h.1, h.2.symm⟩)))
            go_wp2_with fail
            go_roundw
            case rel => exact ⟨2, by omega, rfl, hr.out, below_drewN HB.out _⟩
            case measure => simp [intOf]
          · have hr := Lib.hid (orL_no (k := 2) (x := r2) (by rfl) H.out hz)
            have dz : (r2 == 0) = false := by simpa using hz
            clear H hz
            go_wp2_with fail
            go_quiet ((go_at_call 53; exact Calls.quiet_of_same ((HN2.out _).mono fun _ _ h => ⟨h.1, h.2.symm⟩)))
            go_wp2_with fail
            go_ret
            exact ⟨by rw [HR.out, hr.out]; rfl, below_drewN (trans9 BG.out HB.out) _⟩
        · rw [show ((2 : Nat) : Int) = 2 from rfl]
          by_cases hz : r3 = 0
          · have hr := Lib.hid (orL_yes (k := 3) (x := r3) (by rfl) H.out hz)
            rw [hz] at HN3
            clear H hz
            go_wp2_with fail
            go_quiet ((go_at_call 53; exact Calls.quiet_of_same ((HN3.out _).mono fun _ _ h => ⟨h.1, h.2.symm⟩)))
            go_wp2_with fail
            go_roundw
            case rel => exact ⟨3, by omega, rfl, hr.out, below_drewN HB.out _⟩
            case measure => simp [intOf]
          · have hr := Lib.hid (orL_no (k := 3) (x := r3) (by rfl) H.out hz)
            have dz : (r3 == 0) = false := by simpa using hz
            clear H hz
            go_wp2_with fail
            go_quiet ((go_at_call 53; exact Calls.quiet_of_same ((HN3.out _).mono fun _ _ h => ⟨h.1, h.2.symm⟩)))
            go_wp2_with fail
            go_ret
            exact ⟨by rw [HR.out, hr.out]; rfl, below_drewN (trans9 BG.out HB.out) _⟩
        · rw [show ((3 : Nat) : Int) = 3 from rfl]
          by_cases hz : r4 = 0
          · have hr := Lib.hid (orL_yes (k := 4) (x := r4) (by rfl) H.out hz)
            rw [hz] at HN4
            clear H hz
            go_wp2_with fail
            go_quiet ((go_at_call 53; exact Calls.quiet_of_same ((HN4.out _).mono fun _ _ h => ⟨h.1, h.2.symm⟩)))
            go_wp2_with fail
            go_roundw
            case rel => exact ⟨4, by omega, rfl, hr.out, below_drewN HB.out _⟩
            case measure => simp [intOf]
          · have hr := Lib.hid (orL_no (k := 4) (x := r4) (by rfl) H.out hz)
            have dz : (r4 == 0) = false := by simpa using hz
            clear H hz
            go_wp2_with fail
            go_quiet ((go_at_call 53; exact Calls.quiet_of_same ((HN4.out _).mono fun _ _ h => ⟨h.1, h.2.symm⟩)))
            go_wp2_with fail
            go_ret
            exact ⟨by rw [HR.out, hr.out]; rfl, below_drewN (trans9 BG.out HB.out) _⟩
        · rw [show ((4 : Nat) : Int) = 4 from rfl]
          have hr := Lib.hid (show orL [0, r1, r2, r3, r4, r5] = r5 from H.out.trans (orL_one r5))
          obtain ⟨x0, x1, x2, x3, x4, x5, x6, x7, x8, xf, xl⟩ := HQ1.out.below HB.out
          obtain ⟨y0, y1, y2, y3, y4, y5, y6, y7, y8, yf, yl⟩ := HQ2.out.below HB.out
          dsimp only at x3 x4 y3 y4
          clear H
          go_wp2_with fail
          refine (HC.out _).mono ?_; rintro e w5 ⟨rfl, b5⟩
          go_wp2
          go_ret
          exact ⟨by rw [HR.out, hr.out]; rfl, trans9 (trans9 BG.out HB.out) b5⟩
  · have hr := Lib.hid (orL_no (k := 0) (x := r0) (by rfl) rfl h0 : orL [r0, r1, r2, r3, r4, r5] = r0)
    have dz : (r0 == 0) = false := by simpa using h0
    clear h0
    go_wp2
    go_ret
    exact ⟨by rw [HR.out, hr.out]; rfl, K1.out⟩

end Go.Proofs.YtkmcjmpdmgdcoaaGreatDoor
