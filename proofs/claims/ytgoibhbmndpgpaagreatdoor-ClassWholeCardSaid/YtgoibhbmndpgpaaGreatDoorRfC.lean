/- The texts RefFamA, RefBatA, RefBatB, one behind the other. -/
import Derived.Test.YtgoibhbmndpgpaaGreatDoorFamX
import Derived.Test.YtgoibhbmndpgpaaGreatDoorPointW
import Derived.Test.YtgoibhbmndpgpaaGreatDoorRfA
import Derived.Test.YtgoibhbmndpgpaaGreatDoorRfB
import Derived.Test.YtgoibhbmndpgpaaGreatDoorBatP
import Derived.Test.YtgoibhbmndpgpaaGreatDoorRefPointA
import Derived.Test.YtgoibhbmndpgpaaGreatDoorBatX

/- The walks of the reference's flag, ComparePoints. -/
set_option maxRecDepth 100000
set_option linter.unusedVariables false
set_option linter.unusedSimpArgs false
namespace Go.Proofs.YtgoibhbmndpgpaaGreatDoor
open Go.RowKit Dc
attribute [local go_sem ↓] Go.wp_at_zero Go.wp_at_succ

def flI (b : Bool) : Int := if b = true then 1 else 0
theorem rflag_calls (b : Bool) (w : World) : Calls Tryz.prog 68 #[.bool b] w fun e w' => e = .returned (.int .i64 (flI b)) ∧ w = w' := by
  cases b
  all_goals
    go_enter Tryz.func68, Tryz.ntmps68
    go_wp2
    go_ret
    exact ⟨rfl, rfl⟩
theorem nu_ord (a b : Int) : nuI a b = ord3 a b := rfl
theorem nu_flag (a b : Bool) : nuI (flI a) (flI b) = ffI a b := by cases a <;> cases b <;> decide
/-- four pairs of numbers in a block -/
structure Arr8 (w : World) (g : Nat) (a0 b0 a1 b1 a2 b2 a3 b3 : Int) : Prop where
  c0 : w.cell? ⟨g, 0, none⟩ = some (.int .i64 a0)
  c1 : w.cell? ⟨g, 1, none⟩ = some (.int .i64 b0)
  c2 : w.cell? ⟨g, 2, none⟩ = some (.int .i64 a1)
  c3 : w.cell? ⟨g, 3, none⟩ = some (.int .i64 b1)
  c4 : w.cell? ⟨g, 4, none⟩ = some (.int .i64 a2)
  c5 : w.cell? ⟨g, 5, none⟩ = some (.int .i64 b2)
  c6 : w.cell? ⟨g, 6, none⟩ = some (.int .i64 a3)
  c7 : w.cell? ⟨g, 7, none⟩ = some (.int .i64 b3)
  lt : g < w.heap.size
theorem Arr8.new (w : World) (a0 b0 a1 b1 a2 b2 a3 b3 : Int) (t : TypeId) : Arr8 (w.alloc (.cells #[.int .i64 a0, .int .i64 b0, .int .i64 a1, .int .i64 b1, .int .i64 a2, .int .i64 b2, .int .i64 a3, .int .i64 b3] t)) w.heap.size a0 b0 a1 b1 a2 b2 a3 b3 :=
  ⟨by simp, by simp, by simp, by simp, by simp, by simp, by simp, by simp, by simp⟩
theorem Arr8.drew {w : World} {g : Nat} {a0 b0 a1 b1 a2 b2 a3 b3 : Int} (h : Arr8 w g a0 b0 a1 b1 a2 b2 a3 b3) : Arr8 w.drew g a0 b0 a1 b1 a2 b2 a3 b3 := ⟨h.c0, h.c1, h.c2, h.c3, h.c4, h.c5, h.c6, h.c7, h.lt⟩
theorem Arr8.below {w w' : World} {g : Nat} {a0 b0 a1 b1 a2 b2 a3 b3 : Int} (h : Arr8 w g a0 b0 a1 b1 a2 b2 a3 b3) (hb : Below w.heap.size w w') : Arr8 w' g a0 b0 a1 b1 a2 b2 a3 b3 :=
  ⟨(hb.cell h.lt).trans h.c0, (hb.cell h.lt).trans h.c1, (hb.cell h.lt).trans h.c2, (hb.cell h.lt).trans h.c3, (hb.cell h.lt).trans h.c4, (hb.cell h.lt).trans h.c5, (hb.cell h.lt).trans h.c6, (hb.cell h.lt).trans h.c7, Nat.lt_of_lt_of_le h.lt hb.size⟩
theorem orL_one (x : Int) : orL [x] = x := by
  rw [orL]
  split
  · rename_i h; rw [h]; rfl
  · rfl

set_option maxHeartbeats 8000000 in
theorem rcomparepoints_calls (v u : Value) (p q : Pt) (w : World) (hv : LbRow w v p.l) (hu : LbRow w u q.l) (hp : PtIn p) (hq : PtIn q) :
    Calls Tryz.prog 46 #[ptv v p, ptv u q] w fun e w' => e = .returned (.int .i64 (cmpP p q)) ∧ Below w.heap.size w w' := by
  obtain ⟨pl, ro, inf, bm, bs, m, s, td, ti⟩ := p
  obtain ⟨ql, ro2, inf2, bm2, bs2, m2, s2, td2, ti2⟩ := q
  have hb0 : Below w.heap.size w ((w.alloc (.cells (ptc v ⟨pl, ro, inf, bm, bs, m, s, td, ti⟩) 46)).alloc (.cells (ptc u ⟨ql, ro2, inf2, bm2, bs2, m2, s2, td2, ti2⟩) 46)) := kp_alloc (kp_alloc (Below.refl _ _) _) _
  have P1 := (PtAt.new w v ⟨pl, ro, inf, bm, bs, m, s, td, ti⟩ 46).alloc (.cells (ptc u ⟨ql, ro2, inf2, bm2, bs2, m2, s2, td2, ti2⟩) 46)
  have P2 := PtAt.new (w.alloc (.cells (ptc v ⟨pl, ro, inf, bm, bs, m, s, td, ti⟩) 46)) u ⟨ql, ro2, inf2, bm2, bs2, m2, s2, td2, ti2⟩ 46
  rw [show (w.alloc (.cells (ptc v ⟨pl, ro, inf, bm, bs, m, s, td, ti⟩) 46)).heap.size = w.heap.size + 1 by simp] at P2
  have HL := Lib.hid (rlcompare_calls pl ql v u _ (hv.below hb0) (hu.below hb0))
  have HC := Lib.hid (fun W => rcmp_walk bm bs bm2 bs2 W hp.bm1 hp.bm2 hq.bm1 hq.bm2)
  have HF1 := Lib.hid (fun W => rflag_calls td W)
  have HF2 := Lib.hid (fun W => rflag_calls td2 W)
  have HF3 := Lib.hid (fun W => rflag_calls inf W)
  have HF4 := Lib.hid (fun W => rflag_calls inf2 W)
  rw [show cmpP ⟨pl, ro, inf, bm, bs, m, s, td, ti⟩ ⟨ql, ro2, inf2, bm2, bs2, m2, s2, td2, ti2⟩ = orL [cmpL pl ql, ffI td td2, ord3 ti ti2, ord3 ro ro2, ffI inf inf2, cmpO bm bs bm2 bs2] from rfl]
  rw [← nu_flag, ← nu_flag, ← nu_ord, ← nu_ord]
  have HN1 := Lib.hid (fun W => rnumber_calls (flI td) (flI td2) W)
  have HN2 := Lib.hid (fun W => rnumber_calls ti ti2 W)
  have HN3 := Lib.hid (fun W => rnumber_calls ro ro2 W)
  have HN4 := Lib.hid (fun W => rnumber_calls (flI inf) (flI inf2) W)
  generalize cmpO bm bs bm2 bs2 = r5 at *
  generalize nuI (flI td) (flI td2) = r1 at *
  generalize nuI (flI inf) (flI inf2) = r4 at *
  generalize nuI ti ti2 = r2 at *
  generalize nuI ro ro2 = r3 at *
  generalize cmpL pl ql = r0 at *
  generalize flI td = t1 at *
  generalize flI td2 = t2 at *
  generalize flI inf = i1 at *
  generalize flI inf2 = i2 at *
  obtain ⟨r, hr⟩ : ∃ r, r = orL [r0, r1, r2, r3, r4, r5] := ⟨_, rfl⟩
  rw [← hr]
  have HR := Lib.hid hr
  have HB := Lib.hid hb0
  have HP1 := Lib.hid P1
  have HP2 := Lib.hid P2
  dsimp only at hv hu
  obtain ⟨A, cap, rfl, _⟩ := hv
  obtain ⟨A2, cap2, rfl, _⟩ := hu
  generalize pl.length = n at *
  generalize ql.length = n2 at *
  clear hp hq hb0 hr P1 P2
  go_enter Tryz.func46, Tryz.ntmps46
  go_wp2_with fail
  refine HL.out.mono ?_; rintro e w1 ⟨rfl, b1⟩
  have K1 := Lib.hid (trans9 HB.out b1)
  have Q1 := Lib.hid (HP1.out.below b1)
  have Q2 := Lib.hid (HP2.out.below b1)
  clear HL HP1 HP2 b1 HB
  by_cases h0 : r0 = 0
  · have hd0 := Lib.hid (orL_yes (k := 0) (x := r0) (by rfl) rfl h0 : orL [r0, r1, r2, r3, r4, r5] = _)
    subst h0
    obtain ⟨x0, x1, x2, x3, x4, x5, x6, x7, x8, xf, xl⟩ := Q1.out
    obtain ⟨y0, y1, y2, y3, y4, y5, y6, y7, y8, yf, yl⟩ := Q2.out
    dsimp only at x1 x2 x3 x4 x7 x8 y1 y2 y3 y4 y7 y8
    go_upto_region 4 with fail
    have hX : ∀ o v, w1.cell? ⟨w.heap.size, o, none⟩ = some v → ∀ z, Below w1.heap.size w1 z → z.cell? ⟨w.heap.size, o, none⟩ = some v := fun o v h z hz => (hz.cell (p := ⟨w.heap.size, o, none⟩) xl).trans h
    have hY : ∀ o v, w1.cell? ⟨w.heap.size + 1, o, none⟩ = some v → ∀ z, Below w1.heap.size w1 z → z.cell? ⟨w.heap.size + 1, o, none⟩ = some v := fun o v h z hz => (hz.cell (p := ⟨w.heap.size + 1, o, none⟩) yl).trans h
    go_cut [6] (fun s6 wx => ∃ g : Nat, s6 = .pointer (some ⟨g, 0, none⟩) ∧ Below w1.heap.size w1 wx ∧ Arr8 wx g t1 t2 ti ti2 ro ro2 i1 i2)
    case first =>
      have a1 := hX _ _ x1
      have a2 := hX _ _ x2
      have a7 := hX _ _ x7
      have a8 := hX _ _ x8
      have e1 := hY _ _ y1
      have e2 := hY _ _ y2
      have e7 := hY _ _ y7
      have e8 := hY _ _ y8
      clear x0 x1 x2 x3 x4 x5 x6 x7 x8 xf y0 y1 y2 y3 y4 y5 y6 y7 y8 yf hX hY HC HN1 HN2 HN3 HN4
      go_region_held3 (fun z => Below w1.heap.size w1 z)
        (((repeat' first | assumption | exact Below.refl _ _ | exact Nat.le_refl _ | apply kp_alloc | apply kp_set | apply Below.drew | omega); done))
        ((first
          | (go_at_call_of 68 (Value.bool td); refine (HF1.out _).mono ?_; rintro e w3 ⟨rfl, rfl⟩)
          | (go_at_call_of 68 (Value.bool td2); refine (HF2.out _).mono ?_; rintro e w4 ⟨rfl, rfl⟩)
          | (go_at_call_of 68 (Value.bool inf); refine (HF3.out _).mono ?_; rintro e w5 ⟨rfl, rfl⟩)
          | (go_at_call_of 68 (Value.bool inf2); refine (HF4.out _).mono ?_; rintro e w6 ⟨rfl, rfl⟩)))
      all_goals
        go_wp2_with fail
        go_meet
        exact ⟨_, rfl, by first | exact (kp_alloc (Below.refl _ _) _).drew | exact kp_alloc (Below.refl _ _).drew _, by first | exact (Arr8.new _ _ _ _ _ _ _ _ _ _).drew | exact Arr8.new _ _ _ _ _ _ _ _ _ _⟩
    case rest =>
      obtain ⟨g, rfl, bG, hA⟩ := hcut
      have BG := Lib.hid (trans9 K1.out bG)
      have HA := Lib.hid hA
      have HQ1 := Lib.hid (Q1.out.below bG)
      have HQ2 := Lib.hid (Q2.out.below bG)
      clear x0 x1 x2 x3 x4 x5 x6 x7 x8 xf y0 y1 y2 y3 y4 y5 y6 y7 y8 yf hX hY xl yl bG hA HF1 HF2 HF3 HF4
      go_wp2_with fail
      go_loopw [7] (fun v wr => ∃ k : Nat, k ≤ 4 ∧ v = .int .i64 (k : Nat) ∧ Hid (orL [0, r1, r2, r3, r4, r5] = orL (([0, r1, r2, r3, r4, r5] : List Int).drop (k + 1))) ∧ Below wc.heap.size wc wr) (fun v _ => 4 - (intOf v).toNat)
      case atStart => exact ⟨0, Nat.zero_le _, rfl, hd0.out, Below.refl _ _⟩
      case round =>
        obtain ⟨k, hk, rfl, H, hb⟩ := hrel
        have HB := Lib.hid hb
        obtain ⟨c0, c1, c2, c3, c4, c5, c6, c7, hlt⟩ := HA.out.below hb
        have hk5 : k = 0 ∨ k = 1 ∨ k = 2 ∨ k = 3 ∨ k = 4 := by omega
        clear hk hb
        rcases hk5 with rfl | rfl | rfl | rfl | rfl
        · rw [show ((0 : Nat) : Int) = 0 from rfl]
          by_cases hz : r1 = 0
          · have hr := Lib.hid (orL_yes (k := 1) (x := r1) (by rfl) H.out hz)
            rw [hz] at HN1
            clear H hz
            go_wp2_with fail
            go_quiet ((go_at_call 69; exact Calls.quiet_of_same ((HN1.out _).mono fun _ _ h => ⟨h.1, h.2.symm⟩)))
            go_wp2_with fail
            go_roundw
            case rel => exact ⟨1, by omega, rfl, hr.out, below_drewN HB.out _⟩
            case measure => simp [intOf]
          · have hr := Lib.hid (orL_no (k := 1) (x := r1) (by rfl) H.out hz)
            have dz : (r1 == 0) = false := by simpa using hz
            clear H hz
            go_wp2_with fail
            go_quiet ((go_at_call 69; exact Calls.quiet_of_same ((HN1.out _).mono fun _ _ h => ⟨h.1, h.2.symm⟩)))
            go_wp2_with fail
            go_ret
            exact ⟨by rw [HR.out, hr.out]; rfl, below_drewN (trans9 BG.out HB.out) _⟩
        · rw [show ((1 : Nat) : Int) = 1 from rfl]
          by_cases hz : r2 = 0
          · have hr := Lib.hid (orL_yes (k := 2) (x := r2) (by rfl) H.out hz)
            rw [hz] at HN2
            clear H hz
            go_wp2_with fail
            go_quiet ((go_at_call 69; exact Calls.quiet_of_same ((HN2.out _).mono fun _ _ h => ⟨h.1, h.2.symm⟩)))
            go_wp2_with fail
            go_roundw
            case rel => exact ⟨2, by omega, rfl, hr.out, below_drewN HB.out _⟩
            case measure => simp [intOf]
          · have hr := Lib.hid (orL_no (k := 2) (x := r2) (by rfl) H.out hz)
            have dz : (r2 == 0) = false := by simpa using hz
            clear H hz
            go_wp2_with fail
            go_quiet ((go_at_call 69; exact Calls.quiet_of_same ((HN2.out _).mono fun _ _ h => ⟨h.1, h.2.symm⟩)))
            go_wp2_with fail
            go_ret
            exact ⟨by rw [HR.out, hr.out]; rfl, below_drewN (trans9 BG.out HB.out) _⟩
        · rw [show ((2 : Nat) : Int) = 2 from rfl]
          by_cases hz : r3 = 0
          · have hr := Lib.hid (orL_yes (k := 3) (x := r3) (by rfl) H.out hz)
            rw [hz] at HN3
            clear H hz
            go_wp2_with fail
            go_quiet ((go_at_call 69; exact Calls.quiet_of_same ((HN3.out _).mono fun _ _ h => ⟨h.1, h.2.symm⟩)))
            go_wp2_with fail
            go_roundw
            case rel => exact ⟨3, by omega, rfl, hr.out, below_drewN HB.out _⟩
            case measure => simp [intOf]
          · have hr := Lib.hid (orL_no (k := 3) (x := r3) (by rfl) H.out hz)
            have dz : (r3 == 0) = false := by simpa using hz
            clear H hz
            go_wp2_with fail
            go_quiet ((go_at_call 69; exact Calls.quiet_of_same ((HN3.out _).mono fun _ _ h => ⟨h.1, h.2.symm⟩)))
            go_wp2_with fail
            go_ret
            exact ⟨by rw [HR.out, hr.out]; rfl, below_drewN (trans9 BG.out HB.out) _⟩
        · rw [show ((3 : Nat) : Int) = 3 from rfl]
          by_cases hz : r4 = 0
          · have hr := Lib.hid (orL_yes (k := 4) (x := r4) (by rfl) H.out hz)
            rw [hz] at HN4
            clear H hz
            go_wp2_with fail
            go_quiet ((go_at_call 69; exact Calls.quiet_of_same ((HN4.out _).mono fun _ _ h => ⟨h.1, h.2.symm⟩)))
            go_wp2_with fail
            go_roundw
            case rel => exact ⟨4, by omega, rfl, hr.out, below_drewN HB.out _⟩
            case measure => simp [intOf]
          · have hr := Lib.hid (orL_no (k := 4) (x := r4) (by rfl) H.out hz)
            have dz : (r4 == 0) = false := by simpa using hz
            clear H hz
            go_wp2_with fail
            go_quiet ((go_at_call 69; exact Calls.quiet_of_same ((HN4.out _).mono fun _ _ h => ⟨h.1, h.2.symm⟩)))
            go_wp2_with fail
            go_ret
            exact ⟨by rw [HR.out, hr.out]; rfl, below_drewN (trans9 BG.out HB.out) _⟩
        · rw [show ((4 : Nat) : Int) = 4 from rfl]
          have hr := Lib.hid (show orL [0, r1, r2, r3, r4, r5] = r5 from H.out.trans (orL_one r5))
          obtain ⟨x0, x1, x2, x3, x4, x5, x6, x7, x8, xf, xl⟩ := HQ1.out.below HB.out
          obtain ⟨y0, y1, y2, y3, y4, y5, y6, y7, y8, yf, yl⟩ := HQ2.out.below HB.out
          dsimp only at x3 x4 y3 y4
          clear H
          go_wp2_with fail
          refine (HC.out _).mono ?_; rintro e w5 ⟨rfl, b5⟩
          go_wp2
          go_ret
          exact ⟨by rw [HR.out, hr.out]; rfl, trans9 (trans9 BG.out HB.out) b5⟩
  · have hr := Lib.hid (orL_no (k := 0) (x := r0) (by rfl) rfl h0 : orL [r0, r1, r2, r3, r4, r5] = r0)
    have dz : (r0 == 0) = false := by simpa using h0
    clear h0
    go_wp2
    go_ret
    exact ⟨by rw [HR.out, hr.out]; rfl, K1.out⟩

end Go.Proofs.YtgoibhbmndpgpaaGreatDoor

/- The walks of the reference's IsKind, Family, Tenant, Points, Check. -/
set_option maxRecDepth 100000
set_option linter.unusedVariables false
set_option linter.unusedSimpArgs false
namespace Go.Proofs.YtgoibhbmndpgpaaGreatDoor
open Go.RowKit Dc
attribute [local go_sem ↓] Go.wp_at_zero Go.wp_at_succ

theorem riskind_calls (k : Int) (w : World) :
    Calls Tryz.prog 44 #[.int .i64 k] w fun e w' => e = .returned (.bool (kindOk k)) ∧ w = w' := by
  by_cases h1 : 0 ≤ k
  · have d1 : decide ((0 : Int) ≤ k) = true := decide_eq_true h1
    by_cases h2 : k ≤ 4
    · have d2 : decide (k ≤ (4 : Int)) = true := decide_eq_true h2
      rw [show kindOk k = true from decide_eq_true (show 0 ≤ k ∧ k < 5 by omega)]
      go_enter Tryz.func44, Tryz.ntmps44
      go_wp2
      go_ret
      exact ⟨rfl, rfl⟩
    · have d2 : decide (k ≤ (4 : Int)) = false := decide_eq_false h2
      rw [show kindOk k = false from decide_eq_false (show ¬ (0 ≤ k ∧ k < 5) by omega)]
      go_enter Tryz.func44, Tryz.ntmps44
      go_wp2
      go_ret
      exact ⟨rfl, rfl⟩
  · have d1 : decide ((0 : Int) ≤ k) = false := decide_eq_false h1
    rw [show kindOk k = false from decide_eq_false (show ¬ (0 ≤ k ∧ k < 5) by omega)]
    go_enter Tryz.func44, Tryz.ntmps44
    go_wp2
    go_ret
    exact ⟨rfl, rfl⟩

theorem famOk_yes {h : Hd} {l : List Pt} (h1 : nameOk h.n = true) (h2 : kindOk h.k = true) (h3 : valueOk h.u = true) (h4 : valueOk h.h = true) (h5 : ∀ p ∈ l, ptOk h.k p = true) (h6 : StrictP l) : famOk h l = true := by
  unfold famOk
  rw [h1, h2, h3, h4, decide_eq_true h6, List.all_eq_true.2 h5]; rfl
theorem famOk_pt {h : Hd} {l : List Pt} {p : Pt} (hp : p ∈ l) (hn : ptOk h.k p = false) : famOk h l = false := by
  unfold famOk
  rw [List.all_eq_false.2 ⟨p, hp, by rw [hn]; decide⟩]; simp
theorem famOk_or {h : Hd} {l : List Pt} (hn : ¬ StrictP l) : famOk h l = false := by
  unfold famOk
  rw [decide_eq_false hn]; simp
/-- so far the family may be one -/
def famTo (k : Int) (l : List Pt) (j : Nat) : Prop := (∀ m p, m < j → l[m]? = some p → ptOk k p = true) ∧ ∀ m p q, m + 1 < j → l[m]? = some p → l[m + 1]? = some q → cmpP p q < 0
theorem famTo_zero (k : Int) (l : List Pt) : famTo k l 0 := ⟨fun m p h => absurd h (by omega), fun m p q h => absurd h (by omega)⟩
theorem famTo_first {k : Int} {l : List Pt} {p : Pt} (hp : l[0]? = some p) (hk : ptOk k p = true) : famTo k l 1 := ⟨fun m q h hq => by
    obtain rfl : m = 0 := by omega
    rw [hp] at hq; obtain rfl := Option.some.inj hq; exact hk, fun m p q h => absurd h (by omega)⟩
theorem famTo_next {k : Int} {l : List Pt} {j : Nat} {p q : Pt} (h : famTo k l (j + 1)) (hp : l[j]? = some p) (hq : l[j + 1]? = some q) (hk : ptOk k q = true) (hc : cmpP p q < 0) : famTo k l (j + 2) := ⟨fun m r hm hr => by
    by_cases e : m = j + 1
    · subst e
      rw [hq] at hr; obtain rfl := Option.some.inj hr; exact hk
    · exact h.1 m r (by omega) hr, fun m r t hm hr ht => by
    by_cases e : m = j
    · subst e
      rw [hp] at hr; rw [hq] at ht
      obtain rfl := Option.some.inj hr
      obtain rfl := Option.some.inj ht
      exact hc
    · exact h.2 m r t (by omega) hr ht⟩
theorem famTo_end {k : Int} {l : List Pt} {j : Nat} (h : famTo k l j) (hj : l.length ≤ j) : (∀ p ∈ l, ptOk k p = true) ∧ StrictP l := ⟨fun p hp => by
    obtain ⟨i, hi, rfl⟩ := List.getElem_of_mem hp
    exact h.1 i _ (by omega) (List.getElem?_eq_getElem hi), strictP_adj fun i p q h1 h2 => h.2 i p q (by have := (List.getElem?_eq_some_iff.1 h2).1; omega) h1 h2⟩

set_option maxHeartbeats 16000000 in
theorem rfamily_calls (h : Hd) (L : List Ps) (v : Value) (w : World) (hv : PtRow w v L) (hn : L.length ≤ 1000) (hh : HdIn h) :
    Calls Tryz.prog 26 #[famv h v] w fun e w' => e = .returned (.bool (famOk h (pts L))) ∧ Below w.heap.size w w' := by
  have k0 := kp_alloc (Below.refl w.heap.size w) (.cells (famc h v) 39)
  have F0 := FamAt.new w h v 39
  have hN := Lib.hid (fun W => rname_calls h.n W hh.ln)
  have hK := Lib.hid (fun W => riskind_calls h.k W)
  have hU := Lib.hid (fun W => rvalue_calls h.u W hh.lu)
  have hH := Lib.hid (fun W => rvalue_calls h.h W hh.lh)
  obtain ⟨X, hX⟩ : ∃ X, X = famOk h (pts L) := ⟨_, rfl⟩
  rw [← hX]
  have hE := Lib.hid hX
  have e1 := Lib.hid (show nameOk h.n = false → X = false from fun e => by rw [hX]; unfold famOk; rw [e]; rfl)
  have e2 := Lib.hid (show kindOk h.k = false → X = false from fun e => by rw [hX]; unfold famOk; rw [e]; simp)
  have e3 := Lib.hid (show valueOk h.u = false → X = false from fun e => by rw [hX]; unfold famOk; rw [e]; simp)
  have e4 := Lib.hid (show valueOk h.h = false → X = false from fun e => by rw [hX]; unfold famOk; rw [e]; simp)
  have ep := Lib.hid (fun p (hp : p ∈ pts L) (e : ptOk h.k p = false) => show X = false by rw [hX]; exact famOk_pt hp e)
  have eo := Lib.hid (fun (e : ¬ StrictP (pts L)) => show X = false by rw [hX]; exact famOk_or e)
  have ey := Lib.hid (fun (h1 : nameOk h.n = true) (h2 : kindOk h.k = true) (h3 : valueOk h.u = true) (h4 : valueOk h.h = true) (h5 : ∀ p ∈ pts L, ptOk h.k p = true) (h6 : StrictP (pts L)) => show X = true by rw [hX]; exact famOk_yes h1 h2 h3 h4 h5 h6)
  clear hX hE
  have hvz := Lib.hid (fun W (hW : Below w.heap.size w W) => hv.below hW)
  have HP := Lib.hid hv.2
  obtain ⟨A, cap, rfl, hlc, hcm, hnil, hrow⟩ := hv.1
  unfold maxLen at hcm
  have HR := Lib.hid hrow
  have K0 := Lib.hid k0
  have HF0 := Lib.hid F0
  clear hrow hnil hv hh k0 F0
  obtain ⟨n, kk, u, hl⟩ := h
  dsimp only at hN hK hU hH e1 e2 e3 e4 ep ey HF0
  generalize hb1 : nameOk n = b1 at *
  generalize hb2 : kindOk kk = b2 at *
  generalize hb3 : valueOk u = b3 at *
  generalize hb4 : valueOk hl = b4 at *
  clear hb1 hb2 hb3 hb4
  go_enter Tryz.func26, Tryz.ntmps26
  go_wp2_with fail
  refine (hN.out _).mono ?_; rintro e w99 ⟨rfl, rfl⟩
  cases b1 with
  | false =>
    go_wp2
    go_ret
    exact ⟨by rw [e1.out (by first | rfl | trivial)]; rfl, K0.out⟩
  | true =>
    go_wp2_with fail
    refine (hK.out _).mono ?_; rintro e w99 ⟨rfl, rfl⟩
    cases b2 with
    | false =>
      go_wp2
      go_ret
      exact ⟨by rw [e2.out (by first | rfl | trivial)]; rfl, K0.out⟩
    | true =>
      go_wp2_with fail
      refine (hU.out _).mono ?_; rintro e w99 ⟨rfl, rfl⟩
      cases b3 with
      | false =>
        go_wp2
        go_ret
        exact ⟨by rw [e3.out (by first | rfl | trivial)]; rfl, K0.out⟩
      | true =>
        go_wp2_with fail
        refine (hH.out _).mono ?_; rintro e w99 ⟨rfl, rfl⟩
        cases b4 with
        | false =>
          go_wp2
          go_ret
          exact ⟨by rw [e4.out (by first | rfl | trivial)]; rfl, K0.out⟩
        | true =>
          have EY := Lib.hid (ey.out (by first | rfl | trivial) (by first | rfl | trivial) (by first | rfl | trivial) (by first | rfl | trivial))
          clear e1 e2 e3 e4 ey hN hK hU hH
          go_upto_region 3 with fail
          generalize hW0 : w.alloc (.cells #[.string (str n), .int .i64 kk, .string (str u), .string (str hl), .slice A L.length cap] 39) = W0 at *
          clear hW0
          obtain ⟨b0, hb0⟩ : ∃ b0, b0 = w.heap.size := ⟨_, rfl⟩
          have HK := Lib.hid (fun X (h : Below W0.heap.size W0 X) => show Below w.heap.size w X from trans9 K0.out h)
          rw [← hb0] at HF0 ⊢
          clear hb0
          go_wp2_with fail
          go_loopw [3] (fun v wr => ∃ k : Nat, k ≤ L.length ∧ v = .int .i64 (k : Nat) ∧ Hid (famTo kk (pts L) k) ∧ Below W0.heap.size W0 wr) (fun v _ => L.length - (intOf v).toNat)
          case atStart => exact ⟨0, Nat.zero_le _, rfl, famTo_zero _ _, Below.refl _ _⟩
          case round =>
            obtain ⟨k, hk, rfl, H, hb⟩ := hrel
            have HB := Lib.hid (HK.out _ hb)
            obtain ⟨x0, x1, x2, x3, x4, xf, xl⟩ := HF0.out.below hb
            dsimp only at x0 x1 x2 x3 x4
            by_cases hkl : k < L.length
            · obtain ⟨b, off, rfl, hbs, hc⟩ := HR.out (by omega)
              obtain ⟨x, hx, hxp⟩ := ps_get hkl
              have hix := HP.out x (List.mem_of_getElem? hx)
              have epx := Lib.hid (ep.out x.2 (List.mem_of_getElem? hxp))
              have hfst := Lib.hid (fun (e : k = 0) => famTo_first (k := kk) (show (pts L)[0]? = some x.2 by rw [← hxp, e]))
              have hnxt := Lib.hid (fun (j : Nat) (y : Ps) (e : k = j + 1) (hy : (pts L)[j]? = some y.2) => famTo_next (j := j) (k := kk) (p := y.2) (q := x.2) (by have := H.out; rwa [e] at this) hy (by rw [← e]; exact hxp))
              have hnot := Lib.hid (fun (j : Nat) (y : Ps) (e : k = j + 1) (hy : (pts L)[j]? = some y.2) (hc : ¬ cmpP y.2 x.2 < 0) => eo.out (strictP_no hy (by rw [← e]; exact hxp) hc))
              obtain ⟨c0, c1, c2, c3, c4, c5, c6, c7, c8⟩ := pr_cells hc hx
              have hbw : b < wr.heap.size := Nat.lt_of_lt_of_le hbs HB.out.size
              have HPt := Lib.hid (fun z (hz : Below wr.heap.size wr z) => rpoint_calls kk x.1 x.2 z (hix.1.below (trans9 HB.out hz)) hix.2)
              have hCmp := Lib.hid (fun (y : Ps) (hy : y ∈ L) z (hz : Below wr.heap.size wr z) => rcomparepoints_calls y.1 x.1 y.2 x.2 z ((HP.out y hy).1.below (trans9 HB.out hz)) (hix.1.below (trans9 HB.out hz)) (HP.out y hy).2 hix.2)
              obtain ⟨A1, n1, cap1, hx1⟩ : ∃ A1 n1 cap1, x.1 = .slice A1 n1 cap1 := by obtain ⟨_, _, h, _⟩ := hix.1; exact ⟨_, _, _, h⟩
              have hR : ∀ o u, w.cell? ⟨b, o, none⟩ = some u → ∀ z, Below wr.heap.size wr z → z.cell? ⟨b, o, none⟩ = some u := fun o u hu z hz => ((trans9 HB.out hz).cell (p := ⟨b, o, none⟩) hbs).trans hu
              have hX : ∀ o u, wr.cell? ⟨b0, o, none⟩ = some u → ∀ z, Below wr.heap.size wr z → z.cell? ⟨b0, o, none⟩ = some u := fun o u hu z hz => (hz.cell (p := ⟨b0, o, none⟩) xl).trans hu
              obtain ⟨xv, pp⟩ := x
              simp only at hx1
              subst hx1
              obtain ⟨pl, ro, inf, bm, bs, m, s, td, ti⟩ := pp
              simp only at c0 c1 c2 c3 c4 c5 c6 c7 c8
              have r0 := hR _ _ c0
              have r1 := hR _ _ c1
              have r2 := hR _ _ c2
              have r3 := hR _ _ c3
              have r4 := hR _ _ c4
              have r5 := hR _ _ c5
              have r6 := hR _ _ c6
              have r7 := hR _ _ c7
              have r8 := hR _ _ c8
              have z1 := hX _ _ x1
              have z4 := hX _ _ x4
              have hkI : (k : Int) < (L.length : Int) := by omega
              have hk0 : (0 : Int) ≤ (k : Int) := by omega
              have HXs := Lib.hid hX
              dsimp only at HPt hCmp epx hfst hnxt hnot
              clear c0 c1 c2 c3 c4 c5 c6 c7 c8 x0 x2 x3 xf hX hxp hix
              have HCC := Lib.hid hc
              clear hc hx
              generalize wr = W1 at *
              generalize hpo : ptOk kk ⟨pl, ro, inf, bm, bs, m, s, td, ti⟩ = PO at *
              have HBB := Lib.hid hb
              clear hb
              cases PO with
              | false =>
                clear hnxt hnot hCmp hfst
                go_wp2_with fail
                refine wp_region_noPanic ?_
                refine wp_region_held_drew (S := fun z => Below W1.heap.size W1 z) (by kernel_rfl) ?_ (fun hHeld => ?_)
                · exact Below.drew (Below.refl _ _)
                refine tk9 0 (by assumption) ?_
                refine tk9 1 (by assumption) ?_
                refine tk9 2 (by assumption) ?_
                refine tk9 3 (by assumption) ?_
                refine tk9 4 (by assumption) ?_
                refine tk9 5 (by assumption) ?_
                refine tk9 6 (by assumption) ?_
                refine tk9 7 (by assumption) ?_
                refine wpAnyH_ready (rs := [8]) (by kernel_rfl) (by simp) ?_
                refine AllReadyH.cons (by simp only [List.getElem?_toArray, List.getElem?_cons_succ, List.getElem?_cons_zero]; rfl) (fun K hK => ?_) AllReadyH.nil
                try go_simp
                (go_at_call 45; refine (HPt.out _ (by first | assumption | exact Below.refl _ _ | (repeat' first | assumption | exact Below.refl _ _ | apply kp_alloc | apply Below.drew))).mono ?_; rintro e w2 ⟨rfl, b2⟩; have k2 : Below W1.heap.size W1 w2 := (by refine trans9 ?_ b2; (repeat' first | assumption | exact Below.refl _ _ | exact Nat.le_refl _ | apply kp_alloc | apply kp_set | apply Below.drew | omega)))
                refine hK.out _ _ ?_ (fun hHeld => ?_)
                · first | assumption | exact Below.drew (by assumption)
                clear hK K
                try simp only [Act.put, List.setIfInBounds_toArray, List.set_cons_zero, List.set_cons_succ]
                refine tk9 9 (by assumption) ?_
                refine tk9 10 (by assumption) ?_
                refine tk9 11 (by assumption) ?_ (v := undef) (hy := Or.inr ⟨by rfl, rfl⟩)
                refine tk9 12 (by assumption) ?_ (v := undef) (hy := Or.inr ⟨by rfl, rfl⟩)
                refine tk9 13 (by assumption) ?_ (v := undef) (hy := Or.inr ⟨by rfl, rfl⟩)
                refine tk9 14 (by assumption) ?_ (v := undef) (hy := Or.inr ⟨by rfl, rfl⟩)
                refine tk9 15 (by assumption) ?_ (v := undef) (hy := Or.inr ⟨by rfl, rfl⟩)
                refine tk9 16 (by assumption) ?_ (v := undef) (hy := Or.inr ⟨by rfl, rfl⟩)
                refine tk9 17 (by assumption) ?_ (v := undef) (hy := Or.inr ⟨by rfl, rfl⟩)
                refine tk9 18 (by assumption) ?_ (v := undef) (hy := Or.inr ⟨by rfl, rfl⟩)
                refine tk9 19 (by assumption) ?_ (v := undef) (hy := Or.inr ⟨by rfl, rfl⟩)
                refine tk9 20 (by assumption) ?_ (v := undef) (hy := Or.inr ⟨by rfl, rfl⟩)
                refine tk9 21 (by assumption) ?_ (v := undef) (hy := Or.inr ⟨by rfl, rfl⟩)
                refine tk9 22 (by assumption) ?_ (v := undef) (hy := Or.inr ⟨by rfl, rfl⟩)
                refine tk9 23 (by assumption) ?_ (v := undef) (hy := Or.inr ⟨by rfl, rfl⟩)
                refine tk9 24 (by assumption) ?_ (v := undef) (hy := Or.inr ⟨by rfl, rfl⟩)
                refine tk9 25 (by assumption) ?_ (v := undef) (hy := Or.inr ⟨by rfl, rfl⟩)
                refine tk9 26 (by assumption) ?_ (v := undef) (hy := Or.inr ⟨by rfl, rfl⟩)
                refine tk9 27 (by assumption) ?_ (v := undef) (hy := Or.inr ⟨by rfl, rfl⟩)
                refine tk9 28 (by assumption) ?_
                refine wpAnyH_done (by kernel_rfl) ?_ _
                refine NoPanic.normal ?_
                go_wp2_with fail
                go_ret
                exact ⟨by rw [epx.out (by first | rfl | trivial)]; rfl, trans9 HB.out (by (repeat' first | assumption | exact Below.refl _ _ | exact Nat.le_refl _ | apply kp_alloc | apply kp_set | apply Below.drew | omega))⟩
              | true =>
                by_cases k0 : k = 0
                · have hg := Lib.hid (hfst.out k0 (by first | rfl | trivial))
                  clear hnxt hnot hCmp hfst epx
                  have dk : decide ((0 : Int) < (k : Int)) = false := by simp; omega
                  have dk2 : decide (0 < k) = false := by simp; omega
                  have hk1 := Lib.hid (show k + 1 = 1 by omega)
                  clear k0 hpo
                  go_wp2_with fail
                  refine wp_region_noPanic ?_
                  refine wp_region_held_drew (S := fun z => Below W1.heap.size W1 z) (by kernel_rfl) ?_ (fun hHeld => ?_)
                  · exact Below.drew (Below.refl _ _)
                  refine tk9 0 (by assumption) ?_
                  refine tk9 1 (by assumption) ?_
                  refine tk9 2 (by assumption) ?_
                  refine tk9 3 (by assumption) ?_
                  refine tk9 4 (by assumption) ?_
                  refine tk9 5 (by assumption) ?_
                  refine tk9 6 (by assumption) ?_
                  refine tk9 7 (by assumption) ?_
                  refine wpAnyH_ready (rs := [8]) (by kernel_rfl) (by simp) ?_
                  refine AllReadyH.cons (by simp only [List.getElem?_toArray, List.getElem?_cons_succ, List.getElem?_cons_zero]; rfl) (fun K hK => ?_) AllReadyH.nil
                  try go_simp
                  (go_at_call 45; refine (HPt.out _ (by first | assumption | exact Below.refl _ _ | (repeat' first | assumption | exact Below.refl _ _ | apply kp_alloc | apply Below.drew))).mono ?_; rintro e w2 ⟨rfl, b2⟩; have k2 : Below W1.heap.size W1 w2 := (by refine trans9 ?_ b2; (repeat' first | assumption | exact Below.refl _ _ | exact Nat.le_refl _ | apply kp_alloc | apply kp_set | apply Below.drew | omega)))
                  refine hK.out _ _ ?_ (fun hHeld => ?_)
                  · first | assumption | exact Below.drew (by assumption)
                  clear hK K
                  try simp only [Act.put, List.setIfInBounds_toArray, List.set_cons_zero, List.set_cons_succ]
                  refine tk9 9 (by assumption) ?_
                  refine tk9 10 (by assumption) ?_
                  refine tk9 11 (by assumption) ?_
                  refine tk9 12 (by assumption) ?_
                  refine tk9 13 (by assumption) ?_
                  refine tk9 14 (by assumption) ?_ (v := undef) (hy := Or.inr ⟨by rfl, rfl⟩)
                  refine tk9 15 (by assumption) ?_ (v := undef) (hy := Or.inr ⟨by rfl, rfl⟩)
                  refine tk9 16 (by assumption) ?_ (v := undef) (hy := Or.inr ⟨by rfl, rfl⟩)
                  refine tk9 17 (by assumption) ?_ (v := undef) (hy := Or.inr ⟨by rfl, rfl⟩)
                  refine tk9 18 (by assumption) ?_ (v := undef) (hy := Or.inr ⟨by rfl, rfl⟩)
                  refine tk9 19 (by assumption) ?_ (v := undef) (hy := Or.inr ⟨by rfl, rfl⟩)
                  refine tk9 20 (by assumption) ?_ (v := undef) (hy := Or.inr ⟨by rfl, rfl⟩)
                  refine tk9 21 (by assumption) ?_ (v := undef) (hy := Or.inr ⟨by rfl, rfl⟩)
                  refine tk9 22 (by assumption) ?_ (v := undef) (hy := Or.inr ⟨by rfl, rfl⟩)
                  refine tk9 23 (by assumption) ?_ (v := undef) (hy := Or.inr ⟨by rfl, rfl⟩)
                  refine tk9 24 (by assumption) ?_ (v := undef) (hy := Or.inr ⟨by rfl, rfl⟩)
                  refine tk9 25 (by assumption) ?_ (v := undef) (hy := Or.inr ⟨by rfl, rfl⟩)
                  refine tk9 26 (by assumption) ?_ (v := undef) (hy := Or.inr ⟨by rfl, rfl⟩)
                  refine tk9 27 (by assumption) ?_
                  refine tk9 28 (by assumption) ?_
                  refine wpAnyH_done (by kernel_rfl) ?_ _
                  refine NoPanic.normal ?_
                  go_wp2_with fail
                  go_roundw
                  case rel => exact ⟨k + 1, hkl, by go_num, by rw [hk1.out]; exact hg.out, trans9 HBB.out (by (repeat' first | assumption | exact Below.refl _ _ | exact Nat.le_refl _ | apply kp_alloc | apply kp_set | apply Below.drew | omega))⟩
                  case measure => simp [intOf]; omega
                · obtain ⟨j, hj⟩ : ∃ j, k = j + 1 := ⟨k - 1, by omega⟩
                  obtain ⟨y, hy, hyp⟩ := ps_get (show j < L.length by omega)
                  have hiy := HP.out y (List.mem_of_getElem? hy)
                  have hg := Lib.hid (fun hcc => hnxt.out j y hj hyp (by first | rfl | trivial) hcc)
                  have hno := Lib.hid (fun hcc => hnot.out j y hj hyp hcc)
                  have HCm := Lib.hid (hCmp.out y (List.mem_of_getElem? hy))
                  obtain ⟨d0, d1, d2, d3, d4, d5, d6, d7, d8⟩ := pr_cells HCC.out hy
                  have hRb : ∀ o u, w.cell? ⟨b, o, none⟩ = some u → ∀ z, Below W1.heap.size W1 z → z.cell? ⟨b, o, none⟩ = some u := fun o u hu z hz => ((trans9 HB.out hz).cell (p := ⟨b, o, none⟩) hbs).trans hu
                  obtain ⟨A2, n2, cap2, hy1⟩ : ∃ A1 n1 cap1, y.1 = .slice A1 n1 cap1 := by obtain ⟨_, _, h, _⟩ := hiy.1; exact ⟨_, _, _, h⟩
                  obtain ⟨yv, qq⟩ := y
                  simp only at hy1
                  subst hy1
                  obtain ⟨ql, ro2, inf2, bm2, bs2, m2, s2, td2, ti2⟩ := qq
                  simp only at d0 d1 d2 d3 d4 d5 d6 d7 d8
                  have s0 := hRb _ _ d0
                  have s1 := hRb _ _ d1
                  have s2' := hRb _ _ d2
                  have s3 := hRb _ _ d3
                  have s4 := hRb _ _ d4
                  have s5 := hRb _ _ d5
                  have s6 := hRb _ _ d6
                  have s7 := hRb _ _ d7
                  have s8 := hRb _ _ d8
                  have dk : decide ((0 : Int) < (k : Int)) = true := by simp; omega
                  have dk2 : decide (0 < k) = true := by simp; omega
                  have hkj : (k : Int) - 1 = (j : Int) := by omega
                  have hw1 : IntKind.i64.wrap (j : Int) = (j : Int) := IntWalk.i64_in _ (by omega)
                  have hj0 : (0 : Int) ≤ (j : Int) := by omega
                  have hj1 : (j : Int) < (L.length : Int) := by omega
                  have hjl : j < L.length := by omega
                  have hk2 := Lib.hid (show k + 1 = j + 2 by omega)
                  dsimp only at hg hno HCm
                  clear d0 d1 d2 d3 d4 d5 d6 d7 d8 hRb hnxt hnot hCmp hfst epx hy hyp hiy hj k0 hpo
                  generalize cmpP _ _ = C at *
                  by_cases hC : C < 0
                  · have dC : decide ((0 : Int) ≤ C) = false := by simp; omega
                    have hgo := Lib.hid (hg.out hC)
                    clear hg hno
                    go_wp2_with fail
                    refine wp_region_noPanic ?_
                    refine wp_region_held_drew (S := fun z => Below W1.heap.size W1 z) (by kernel_rfl) ?_ (fun hHeld => ?_)
                    · exact Below.drew (Below.refl _ _)
                    refine tk9 0 (by assumption) ?_
                    refine tk9 1 (by assumption) ?_
                    refine tk9 2 (by assumption) ?_
                    refine tk9 3 (by assumption) ?_
                    refine tk9 4 (by assumption) ?_
                    refine tk9 5 (by assumption) ?_
                    refine tk9 6 (by assumption) ?_
                    refine tk9 7 (by assumption) ?_
                    refine wpAnyH_ready (rs := [8]) (by kernel_rfl) (by simp) ?_
                    refine AllReadyH.cons (by simp only [List.getElem?_toArray, List.getElem?_cons_succ, List.getElem?_cons_zero]; rfl) (fun K hK => ?_) AllReadyH.nil
                    try go_simp
                    (go_at_call 45; refine (HPt.out _ (by first | assumption | exact Below.refl _ _ | (repeat' first | assumption | exact Below.refl _ _ | apply kp_alloc | apply Below.drew))).mono ?_; rintro e w2 ⟨rfl, b2⟩; have k2 : Below W1.heap.size W1 w2 := (by refine trans9 ?_ b2; (repeat' first | assumption | exact Below.refl _ _ | exact Nat.le_refl _ | apply kp_alloc | apply kp_set | apply Below.drew | omega)))
                    refine hK.out _ _ ?_ (fun hHeld => ?_)
                    · first | assumption | exact Below.drew (by assumption)
                    clear hK K
                    try simp only [Act.put, List.setIfInBounds_toArray, List.set_cons_zero, List.set_cons_succ]
                    refine tk9 9 (by assumption) ?_
                    refine tk9 10 (by assumption) ?_
                    refine tk9 11 (by assumption) ?_
                    refine tk9 12 (by assumption) ?_
                    refine tk9 13 (by assumption) ?_
                    refine tk9 14 (by assumption) ?_
                    refine tk9 15 (by assumption) ?_
                    refine tk9 16 (by assumption) ?_
                    refine tk9 17 (by assumption) ?_
                    refine tk9 18 (by assumption) ?_
                    refine tk9 19 (by assumption) ?_
                    refine tk9 20 (by assumption) ?_
                    refine tk9 21 (by assumption) ?_
                    refine tk9 22 (by assumption) ?_
                    refine tk9 23 (by assumption) ?_
                    refine tk9 24 (by assumption) ?_
                    refine wpAnyH_ready (rs := [25]) (by kernel_rfl) (by simp) ?_
                    refine AllReadyH.cons (by simp only [List.getElem?_toArray, List.getElem?_cons_succ, List.getElem?_cons_zero]; rfl) (fun K hK => ?_) AllReadyH.nil
                    try go_simp
                    (go_at_call 46; refine (HCm.out _ (by first | assumption | exact Below.refl _ _ | (repeat' first | assumption | exact Below.refl _ _ | apply kp_alloc | apply Below.drew))).mono ?_; rintro e w3 ⟨rfl, b3⟩; have k3 : Below W1.heap.size W1 w3 := (by refine trans9 ?_ b3; (repeat' first | assumption | exact Below.refl _ _ | exact Nat.le_refl _ | apply kp_alloc | apply kp_set | apply Below.drew | omega)))
                    refine hK.out _ _ ?_ (fun hHeld => ?_)
                    · first | assumption | exact Below.drew (by assumption)
                    clear hK K
                    try simp only [Act.put, List.setIfInBounds_toArray, List.set_cons_zero, List.set_cons_succ]
                    refine tk9 26 (by assumption) ?_
                    refine tk9 27 (by assumption) ?_
                    refine tk9 28 (by assumption) ?_
                    refine wpAnyH_done (by kernel_rfl) ?_ _
                    refine NoPanic.normal ?_
                    go_wp2_with fail
                    go_roundw
                    case rel => exact ⟨k + 1, hkl, by go_num, by rw [hk2.out]; exact hgo.out, trans9 HBB.out (by (repeat' first | assumption | exact Below.refl _ _ | exact Nat.le_refl _ | apply kp_alloc | apply kp_set | apply Below.drew | omega))⟩
                    case measure => simp [intOf]; omega
                  · have dC : decide ((0 : Int) ≤ C) = true := by simp; omega
                    have hgo := Lib.hid (hno.out hC)
                    clear hg hno
                    go_wp2_with fail
                    refine wp_region_noPanic ?_
                    refine wp_region_held_drew (S := fun z => Below W1.heap.size W1 z) (by kernel_rfl) ?_ (fun hHeld => ?_)
                    · exact Below.drew (Below.refl _ _)
                    refine tk9 0 (by assumption) ?_
                    refine tk9 1 (by assumption) ?_
                    refine tk9 2 (by assumption) ?_
                    refine tk9 3 (by assumption) ?_
                    refine tk9 4 (by assumption) ?_
                    refine tk9 5 (by assumption) ?_
                    refine tk9 6 (by assumption) ?_
                    refine tk9 7 (by assumption) ?_
                    refine wpAnyH_ready (rs := [8]) (by kernel_rfl) (by simp) ?_
                    refine AllReadyH.cons (by simp only [List.getElem?_toArray, List.getElem?_cons_succ, List.getElem?_cons_zero]; rfl) (fun K hK => ?_) AllReadyH.nil
                    try go_simp
                    (go_at_call 45; refine (HPt.out _ (by first | assumption | exact Below.refl _ _ | (repeat' first | assumption | exact Below.refl _ _ | apply kp_alloc | apply Below.drew))).mono ?_; rintro e w2 ⟨rfl, b2⟩; have k2 : Below W1.heap.size W1 w2 := (by refine trans9 ?_ b2; (repeat' first | assumption | exact Below.refl _ _ | exact Nat.le_refl _ | apply kp_alloc | apply kp_set | apply Below.drew | omega)))
                    refine hK.out _ _ ?_ (fun hHeld => ?_)
                    · first | assumption | exact Below.drew (by assumption)
                    clear hK K
                    try simp only [Act.put, List.setIfInBounds_toArray, List.set_cons_zero, List.set_cons_succ]
                    refine tk9 9 (by assumption) ?_
                    refine tk9 10 (by assumption) ?_
                    refine tk9 11 (by assumption) ?_
                    refine tk9 12 (by assumption) ?_
                    refine tk9 13 (by assumption) ?_
                    refine tk9 14 (by assumption) ?_
                    refine tk9 15 (by assumption) ?_
                    refine tk9 16 (by assumption) ?_
                    refine tk9 17 (by assumption) ?_
                    refine tk9 18 (by assumption) ?_
                    refine tk9 19 (by assumption) ?_
                    refine tk9 20 (by assumption) ?_
                    refine tk9 21 (by assumption) ?_
                    refine tk9 22 (by assumption) ?_
                    refine tk9 23 (by assumption) ?_
                    refine tk9 24 (by assumption) ?_
                    refine wpAnyH_ready (rs := [25]) (by kernel_rfl) (by simp) ?_
                    refine AllReadyH.cons (by simp only [List.getElem?_toArray, List.getElem?_cons_succ, List.getElem?_cons_zero]; rfl) (fun K hK => ?_) AllReadyH.nil
                    try go_simp
                    (go_at_call 46; refine (HCm.out _ (by first | assumption | exact Below.refl _ _ | (repeat' first | assumption | exact Below.refl _ _ | apply kp_alloc | apply Below.drew))).mono ?_; rintro e w3 ⟨rfl, b3⟩; have k3 : Below W1.heap.size W1 w3 := (by refine trans9 ?_ b3; (repeat' first | assumption | exact Below.refl _ _ | exact Nat.le_refl _ | apply kp_alloc | apply kp_set | apply Below.drew | omega)))
                    refine hK.out _ _ ?_ (fun hHeld => ?_)
                    · first | assumption | exact Below.drew (by assumption)
                    clear hK K
                    try simp only [Act.put, List.setIfInBounds_toArray, List.set_cons_zero, List.set_cons_succ]
                    refine tk9 26 (by assumption) ?_
                    refine tk9 27 (by assumption) ?_
                    refine tk9 28 (by assumption) ?_
                    refine wpAnyH_done (by kernel_rfl) ?_ _
                    refine NoPanic.normal ?_
                    go_wp2_with fail
                    go_ret
                    exact ⟨by rw [hgo.out]; rfl, trans9 HB.out (by (repeat' first | assumption | exact Below.refl _ _ | exact Nat.le_refl _ | apply kp_alloc | apply kp_set | apply Below.drew | omega))⟩
            · have hlen : (pts L).length = L.length := by simp [pts]
              have hend := famTo_end H.out (by rw [hlen]; omega)
              have hr := Lib.hid (EY.out hend.1 hend.2)
              clear hend hlen hb
              go_wp2
              go_ret
              exact ⟨by rw [hr.out]; rfl, HB.out⟩

end Go.Proofs.YtgoibhbmndpgpaaGreatDoor

/- The walks of the reference's Tenant, Points, Check. -/
set_option maxRecDepth 100000
set_option linter.unusedVariables false
set_option linter.unusedSimpArgs false
namespace Go.Proofs.YtgoibhbmndpgpaaGreatDoor
open Go.RowKit Dc
attribute [local go_sem ↓] Go.wp_at_zero Go.wp_at_succ

set_option maxHeartbeats 4000000 in
theorem rten_calls (l : List UInt8) (w : World) (hl : l.length ≤ maxLen) :
    Calls Tryz.prog 25 #[.string (str l)] w fun e w' => e = .returned (.bool (tenOk l)) ∧ w = w' := by
  unfold maxLen at hl
  have hsz := str_size l
  go_enter Tryz.func25, Tryz.ntmps25
  go_wp2_with fail
  go_loop [3] (fun v => ∃ k : Nat, k ≤ l.length ∧ v = .int .i64 (k : Nat) ∧ Hid ((l.take k).all tenCh = true)) (fun v => l.length - (intOf v).toNat)
  case atStart => exact ⟨0, Nat.zero_le _, rfl, rfl⟩
  case round =>
    obtain ⟨k, hk, rfl, H⟩ := hrel
    by_cases h : k < l.length
    · have hin : k < (str l).size := by rw [hsz]; exact h
      have hy := Lib.hid (fun e => all_take (p := tenCh) hin H.out e)
      have hn := Lib.hid (fun e => tenOk_bad (all_no (p := tenCh) hin e))
      rw [tenCh_int] at hy hn
      have hkl : k < l.length := h
      rcases ten_ways ((str l)[k].toNat : Int) with h | h | h | h | h | h
      · have d1 : decide ((97 : Int) ≤ ((str l)[k].toNat : Int)) = true := decide_eq_true (by omega)
        have d2 : decide (((str l)[k].toNat : Int) ≤ (122 : Int)) = true := decide_eq_true (by omega)
        have hr := Lib.hid (hy.out (by simp [d1, d2]))
        clear hy hn h
        go_wp2
        go_round
        case rel => exact ⟨k + 1, (by omega), by go_num, hr.out⟩
        case measure => simp [intOf]; omega
      · have d1 : decide ((97 : Int) ≤ ((str l)[k].toNat : Int)) = true := decide_eq_true (by omega)
        have d2 : decide (((str l)[k].toNat : Int) ≤ (122 : Int)) = false := decide_eq_false (by omega)
        have d3 : decide ((48 : Int) ≤ ((str l)[k].toNat : Int)) = true := decide_eq_true (by omega)
        have d4 : decide (((str l)[k].toNat : Int) ≤ (57 : Int)) = false := decide_eq_false (by omega)
        have d5 : decide (((str l)[k].toNat : Int) = (45 : Int)) = false := decide_eq_false (by omega)
        have d6 : (((str l)[k].toNat : Int) == (45 : Int)) = false := by rw [beq_eq_false_iff_ne]; omega
        have hr := Lib.hid (hn.out (by simp [d1, d2, d3, d4, d5]))
        clear hy hn h
        go_wp2
        go_ret
        exact ⟨by rw [hr.out]; rfl, rfl⟩
      · have d1 : decide ((97 : Int) ≤ ((str l)[k].toNat : Int)) = false := decide_eq_false (by omega)
        have d3 : decide ((48 : Int) ≤ ((str l)[k].toNat : Int)) = true := decide_eq_true (by omega)
        have d4 : decide (((str l)[k].toNat : Int) ≤ (57 : Int)) = false := decide_eq_false (by omega)
        have d5 : decide (((str l)[k].toNat : Int) = (45 : Int)) = false := decide_eq_false (by omega)
        have d6 : (((str l)[k].toNat : Int) == (45 : Int)) = false := by rw [beq_eq_false_iff_ne]; omega
        have hr := Lib.hid (hn.out (by simp [d1, d3, d4, d5]))
        clear hy hn h
        go_wp2
        go_ret
        exact ⟨by rw [hr.out]; rfl, rfl⟩
      · have d1 : decide ((97 : Int) ≤ ((str l)[k].toNat : Int)) = false := decide_eq_false (by omega)
        have d3 : decide ((48 : Int) ≤ ((str l)[k].toNat : Int)) = true := decide_eq_true (by omega)
        have d4 : decide (((str l)[k].toNat : Int) ≤ (57 : Int)) = true := decide_eq_true (by omega)
        have hr := Lib.hid (hy.out (by simp [d1, d3, d4]))
        clear hy hn h
        go_wp2
        go_round
        case rel => exact ⟨k + 1, (by omega), by go_num, hr.out⟩
        case measure => simp [intOf]; omega
      · have d1 : decide ((97 : Int) ≤ ((str l)[k].toNat : Int)) = false := decide_eq_false (by omega)
        have d3 : decide ((48 : Int) ≤ ((str l)[k].toNat : Int)) = false := decide_eq_false (by omega)
        have d5 : decide (((str l)[k].toNat : Int) = (45 : Int)) = true := decide_eq_true (by omega)
        have d6 : (((str l)[k].toNat : Int) == (45 : Int)) = true := by rw [beq_iff_eq]; omega
        have hr := Lib.hid (hy.out (by simp [d1, d3, d5]))
        clear hy hn h
        go_wp2
        go_round
        case rel => exact ⟨k + 1, (by omega), by go_num, hr.out⟩
        case measure => simp [intOf]; omega
      · have d1 : decide ((97 : Int) ≤ ((str l)[k].toNat : Int)) = false := decide_eq_false (by omega)
        have d3 : decide ((48 : Int) ≤ ((str l)[k].toNat : Int)) = false := decide_eq_false (by omega)
        have d5 : decide (((str l)[k].toNat : Int) = (45 : Int)) = false := decide_eq_false (by omega)
        have d6 : (((str l)[k].toNat : Int) == (45 : Int)) = false := by rw [beq_eq_false_iff_ne]; omega
        have hr := Lib.hid (hn.out (by simp [d1, d3, d5]))
        clear hy hn h
        go_wp2
        go_ret
        exact ⟨by rw [hr.out]; rfl, rfl⟩
    · have ha := Lib.hid (show l.all tenCh = true by have := H.out; rwa [List.take_of_length_le (by omega)] at this)
      by_cases h1 : (1 : Int) ≤ (l.length : Int)
      · have d1 : decide ((1 : Int) ≤ (l.length : Int)) = true := decide_eq_true h1
        by_cases h2 : (l.length : Int) ≤ 16
        · have d2 : decide ((l.length : Int) ≤ 16) = true := decide_eq_true h2
          have hr := Lib.hid (tenOk_good (s := l) (by omega) (by omega) ha.out)
          go_wp2
          go_ret
          exact ⟨by rw [hr.out]; rfl, rfl⟩
        · have d2 : decide ((l.length : Int) ≤ 16) = false := decide_eq_false h2
          have hr := Lib.hid (tenOk_long (s := l) (by omega))
          go_wp2
          go_ret
          exact ⟨by rw [hr.out]; rfl, rfl⟩
      · have d1 : decide ((1 : Int) ≤ (l.length : Int)) = false := decide_eq_false h1
        have hr := Lib.hid (show tenOk l = false by obtain rfl := List.eq_nil_of_length_eq_zero (show l.length = 0 by omega); rfl)
        go_wp2
        go_ret
        exact ⟨by rw [hr.out]; rfl, rfl⟩

set_option maxHeartbeats 4000000 in
theorem rpoints_calls (F : List Fs) (v : Value) (w : World) (hv : FmRow w v F) (hf : FmFew F) :
    Calls Tryz.prog 27 #[v] w fun e w' => e = .returned (.int .i64 (nPts (fms F) : Nat)) ∧ Below w.heap.size w w' := by
  have HP := Lib.hid hv.2
  have hn := hf.n
  obtain ⟨A, cap, rfl, hlc, hcm, hnil, hrow⟩ := hv.1
  unfold maxLen at hcm
  have HR := Lib.hid hrow
  have HF := Lib.hid hf.plain
  clear hrow hnil hv hf
  go_enter Tryz.func27, Tryz.ntmps27
  go_wp2_with fail
  go_loopw [4, 3] (fun v u wr => ∃ k : Nat, k ≤ F.length ∧ v = .int .i64 (k : Nat) ∧ u = .int .i64 (nPts ((fms F).take k) : Nat) ∧ Below w.heap.size w wr) (fun v _ _ => F.length - (intOf v).toNat)
  case atStart => exact ⟨0, Nat.zero_le _, rfl, rfl, Below.refl _ _⟩
  case round =>
    obtain ⟨k, hk, rfl, rfl, hb⟩ := hrel
    by_cases hkl : k < F.length
    · obtain ⟨b, off, rfl, hbs, hc⟩ := HR.out (by omega)
      obtain ⟨x, hx, hxp⟩ := fs_get hkl
      have hix := HP.out x (List.mem_of_getElem? hx)
      obtain ⟨c0, c1, c2, c3, c4⟩ := fr_cells hc hx
      have hst := Lib.hid (nPts_take hxp)
      have hle := npts_take_le (F := fms F) k HF.out
      have hle2 := npts_take_le (F := fms F) (k + 1) HF.out
      rw [nPts_take hxp] at hle2
      obtain ⟨A1, cap1, hx1, _⟩ : ∃ A1 cap1, x.v = .slice A1 x.L.length cap1 ∧ True := by obtain ⟨A1, cap1, h, _⟩ := hix.1.1; exact ⟨_, _, h, trivial⟩
      have hxl : (fm x).2.length = x.L.length := by simp [pts]
      rw [hxl] at hst hle2
      obtain ⟨⟨n, kk, u, h⟩, xv, L⟩ := x
      simp only at hx1
      subst hx1
      generalize L.length = len at *
      generalize nPts ((fms F).take k) = q at *
      have hR : ∀ o u, w.cell? ⟨b, o, none⟩ = some u → wr.cell? ⟨b, o, none⟩ = some u := fun o u hu => (hb.cell (p := ⟨b, o, none⟩) hbs).trans hu
      simp only at c0 c1 c2 c3 c4
      have r4 := hR _ _ c4
      have hw1 : IntKind.i64.wrap ((q : Int) + (len : Int)) = (q : Int) + (len : Int) := IntWalk.i64_in _ (by omega)
      have HB := Lib.hid hb
      clear hc c0 c1 c2 c3 c4 hR hx hxp hix hbs hb hle hle2 hxl
      go_wp2
      go_roundw
      case rel => exact ⟨k + 1, hkl, by go_num, by rw [hst.out]; go_num, HB.out⟩
      case measure => simp [intOf]; omega
    · have hr := Lib.hid (show nPts ((fms F).take k) = nPts (fms F) by rw [List.take_of_length_le (by simp; omega)])
      go_wp2
      go_ret
      exact ⟨by rw [hr.out]; rfl, hb⟩

theorem batOk_ten {t : List UInt8} {l : List Fp} (h : tenOk t = false) : batOk t l = false := by unfold batOk; rw [h]; rfl
theorem batOk_fam {t : List UInt8} {l : List Fp} {x : Fp} (hx : x ∈ l) (h : famOk x.1 x.2 = false) : batOk t l = false := by
  cases e : batOk t l with
  | false => rfl
  | true => have := (batOk_iff.1 e).2.1 x hx; rw [h] at this; cases this
theorem batOk_or {t : List UInt8} {l : List Fp} (h : ¬ StrictT cmpF l) : batOk t l = false := by
  cases e : batOk t l with
  | false => rfl
  | true => exact absurd (batOk_iff.1 e).2.2 h
/-- so far the batch may be one -/
def batTo (l : List Fp) (j : Nat) : Prop := (∀ m p, m < j → l[m]? = some p → famOk p.1 p.2 = true) ∧ ∀ m p q, m + 1 < j → l[m]? = some p → l[m + 1]? = some q → cmpF p q < 0
theorem batTo_zero (l : List Fp) : batTo l 0 := ⟨fun m p h => absurd h (by omega), fun m p q h => absurd h (by omega)⟩
theorem batTo_first {l : List Fp} {p : Fp} (hp : l[0]? = some p) (hk : famOk p.1 p.2 = true) : batTo l 1 := ⟨fun m q h hq => by
    obtain rfl : m = 0 := by omega
    rw [hp] at hq; obtain rfl := Option.some.inj hq; exact hk, fun m p q h => absurd h (by omega)⟩
theorem batTo_next {l : List Fp} {j : Nat} {p q : Fp} (h : batTo l (j + 1)) (hp : l[j]? = some p) (hq : l[j + 1]? = some q) (hk : famOk q.1 q.2 = true) (hc : cmpF p q < 0) : batTo l (j + 2) := ⟨fun m r hm hr => by
    by_cases e : m = j + 1
    · subst e
      rw [hq] at hr; obtain rfl := Option.some.inj hr; exact hk
    · exact h.1 m r (by omega) hr, fun m r t hm hr ht => by
    by_cases e : m = j
    · subst e
      rw [hp] at hr; rw [hq] at ht
      obtain rfl := Option.some.inj hr
      obtain rfl := Option.some.inj ht
      exact hc
    · exact h.2 m r t (by omega) hr ht⟩
theorem batTo_end {t : List UInt8} {l : List Fp} {j : Nat} (h : batTo l j) (hj : l.length ≤ j) (ht : tenOk t = true) : batOk t l = true := batOk_iff.2 ⟨ht, fun p hp => by
    obtain ⟨i, hi, rfl⟩ := List.getElem_of_mem hp
    exact h.1 i _ (by omega) (List.getElem?_eq_getElem hi), strictT_adj tp_cmpF fun i p q h1 h2 => h.2 i p q (by have := (List.getElem?_eq_some_iff.1 h2).1; omega) h1 h2⟩

set_option maxHeartbeats 16000000 in
theorem rcheck_calls (t : List UInt8) (F : List Fs) (v : Value) (w : World) (hv : FmRow w v F) (hf : FmFew F) (ht : t.length ≤ maxLen) :
    Calls Tryz.prog 15 #[batv t v] w fun e w' => e = .returned (.int .i64 (chk t (fms F))) ∧ Below w.heap.size w w' := by
  have k0 := kp_alloc (Below.refl w.heap.size w) (.cells #[.string (str t), v] 24)
  have F0 := BatAt.new w t v 24
  have hN := Lib.hid (fun W => rten_calls t W ht)
  have hPn := Lib.hid (fun W (hW : Below w.heap.size w W) => rpoints_calls F v W (hv.below hW) hf)
  obtain ⟨X, hX⟩ : ∃ X, X = chk t (fms F) := ⟨_, rfl⟩
  rw [← hX]
  have hlen : (fms F).length = F.length := by simp [fms]
  have et := Lib.hid (show tenOk t = false → X = 19 from fun e => hX.trans (chk_19 (batOk_ten e)))
  have ep := Lib.hid (fun x (hp : x ∈ fms F) (e : famOk x.1 x.2 = false) => show X = 19 from hX.trans (chk_19 (batOk_fam hp e)))
  have eo := Lib.hid (fun (e : ¬ StrictT cmpF (fms F)) => show X = 19 from hX.trans (chk_19 (batOk_or e)))
  have e14 := Lib.hid (fun h h2 => hX.trans (chk_14 (t := t) (l := fms F) h h2))
  have e0 := Lib.hid (fun h h2 h3 => hX.trans (chk_is (t := t) (l := fms F) h h2 h3))
  have eb := Lib.hid (fun (e : tenOk t = true) j (h : batTo (fms F) j) (hj : (fms F).length ≤ j) => batTo_end h hj e)
  rw [hlen] at e14 e0 eb
  clear hX hlen
  have HP := Lib.hid hv.2
  have HFw := Lib.hid hf
  have hn := hf.n
  obtain ⟨A, cap, rfl, hlc, hcm, hnil, hrow⟩ := hv.1
  unfold maxLen at hcm
  have HR := Lib.hid hrow
  have K0 := Lib.hid k0
  have HF0 := Lib.hid F0
  generalize nPts (fms F) = np at *
  generalize tenOk t = b1 at *
  clear hrow hnil hv k0 F0 hf ht
  go_enter Tryz.func15, Tryz.ntmps15
  go_wp2_with fail
  refine (hN.out _).mono ?_; rintro e w99 ⟨rfl, rfl⟩
  cases b1 with
  | false =>
    go_wp2
    go_ret
    exact ⟨by rw [et.out (by first | rfl | trivial)]; rfl, K0.out⟩
  | true =>
    have EB := Lib.hid (eb.out (by first | rfl | trivial))
    clear et eb hN
    go_upto_region 3 with fail
    generalize hW0 : w.alloc (.cells #[.string (str t), .slice A F.length cap] 24) = W0 at *
    clear hW0
    obtain ⟨b0, hb0⟩ : ∃ b0, b0 = w.heap.size := ⟨_, rfl⟩
    have HK := Lib.hid (fun X (h : Below W0.heap.size W0 X) => show Below w.heap.size w X from trans9 K0.out h)
    rw [← hb0] at HF0 ⊢
    clear hb0
    go_wp2_with fail
    go_loopw [3] (fun v wr => ∃ k : Nat, k ≤ F.length ∧ v = .int .i64 (k : Nat) ∧ Hid (batTo (fms F) k) ∧ Below W0.heap.size W0 wr) (fun v _ => F.length - (intOf v).toNat)
    case atStart => exact ⟨0, Nat.zero_le _, rfl, batTo_zero _, Below.refl _ _⟩
    case round =>
      obtain ⟨k, hk, rfl, H, hb⟩ := hrel
      have HB := Lib.hid (HK.out _ hb)
      obtain ⟨x0, x1, xf, xl⟩ := HF0.out.below hb
      by_cases hkl : k < F.length
      · obtain ⟨b, off, rfl, hbs, hc⟩ := HR.out (by omega)
        obtain ⟨x, hx, hxp⟩ := fs_get hkl
        have hm := List.mem_of_getElem? hx
        have hix := HP.out x hm
        have epx := Lib.hid (ep.out (fm x) (List.mem_of_getElem? hxp))
        have hfst := Lib.hid (fun (e : k = 0) => batTo_first (show (fms F)[0]? = some (fm x) by rw [← hxp, e]))
        have hnxt := Lib.hid (fun (j : Nat) (y : Fs) (e : k = j + 1) (hy : (fms F)[j]? = some (fm y)) => batTo_next (j := j) (p := fm y) (q := fm x) (by have := H.out; rwa [e] at this) hy (by rw [← e]; exact hxp))
        have hnot := Lib.hid (fun (j : Nat) (y : Fs) (e : k = j + 1) (hy : (fms F)[j]? = some (fm y)) (hc : ¬ cmpF (fm y) (fm x) < 0) => eo.out (strictT_no hy (by rw [← e]; exact hxp) hc))
        obtain ⟨c0, c1, c2, c3, c4⟩ := fr_cells hc hx
        have hbw : b < wr.heap.size := Nat.lt_of_lt_of_le hbs HB.out.size
        have HPt := Lib.hid (fun z (hz : Below wr.heap.size wr z) => rfamily_calls x.hd x.L x.v z (hix.1.below (trans9 HB.out hz)) (HFw.out.p x hm) hix.2)
        obtain ⟨A1, n1, cap1, hx1⟩ : ∃ A1 n1 cap1, x.v = .slice A1 n1 cap1 := by obtain ⟨_, _, h, _⟩ := hix.1.1; exact ⟨_, _, _, h⟩
        have hR : ∀ o u, w.cell? ⟨b, o, none⟩ = some u → ∀ z, Below wr.heap.size wr z → z.cell? ⟨b, o, none⟩ = some u := fun o u hu z hz => ((trans9 HB.out hz).cell (p := ⟨b, o, none⟩) hbs).trans hu
        have hX : ∀ o u, wr.cell? ⟨b0, o, none⟩ = some u → ∀ z, Below wr.heap.size wr z → z.cell? ⟨b0, o, none⟩ = some u := fun o u hu z hz => (hz.cell (p := ⟨b0, o, none⟩) xl).trans hu
        obtain ⟨⟨xn, xk, xu, xh⟩, xv, xL⟩ := x
        simp only at hx1
        subst hx1
        simp only at c0 c1 c2 c3 c4
        have r0 := hR _ _ c0
        have r1 := hR _ _ c1
        have r2 := hR _ _ c2
        have r3 := hR _ _ c3
        have r4 := hR _ _ c4
        have z1 := hX _ _ x1
        have hkI : (k : Int) < (F.length : Int) := by omega
        have hk0 : (0 : Int) ≤ (k : Int) := by omega
        dsimp only at HPt epx hfst hnxt hnot
        clear c0 c1 c2 c3 c4 x0 xf hX hxp hix hm
        have HCC := Lib.hid hc
        clear hc hx hR
        generalize wr = W1 at *
        generalize hpo : famOk ⟨xn, xk, xu, xh⟩ (pts xL) = PO at *
        have HBB := Lib.hid hb
        clear hb
        cases PO with
        | false =>
          clear hnxt hnot hfst hpo
          go_wp2_with fail
          refine wp_region_noPanic ?_
          refine wp_region_held_drew (S := fun z => Below W1.heap.size W1 z) (by kernel_rfl) ?_ (fun hHeld => ?_)
          · exact Below.drew (Below.refl _ _)
          refine tk9 0 (by assumption) ?_
          refine tk9 1 (by assumption) ?_
          refine tk9 2 (by assumption) ?_
          refine tk9 3 (by assumption) ?_
          refine tk9 4 (by assumption) ?_
          refine wpAnyH_ready (rs := [5]) (by kernel_rfl) (by simp) ?_
          refine AllReadyH.cons (by simp only [List.getElem?_toArray, List.getElem?_cons_succ, List.getElem?_cons_zero]; rfl) (fun K hK => ?_) AllReadyH.nil
          try go_simp
          (go_at_call 26; refine (HPt.out _ (by first | assumption | exact Below.refl _ _ | (repeat' first | assumption | exact Below.refl _ _ | apply kp_alloc | apply Below.drew))).mono ?_; rintro e w2 ⟨rfl, b2⟩; have k2 : Below W1.heap.size W1 w2 := (by refine trans9 ?_ b2; (repeat' first | assumption | exact Below.refl _ _ | exact Nat.le_refl _ | apply kp_alloc | apply kp_set | apply Below.drew | omega)))
          refine hK.out _ _ ?_ (fun hHeld => ?_)
          · first | assumption | exact Below.drew (by assumption)
          clear hK K
          try simp only [Act.put, List.setIfInBounds_toArray, List.set_cons_zero, List.set_cons_succ]
          refine tk9 6 (by assumption) ?_
          refine tk9 7 (by assumption) ?_
          refine tk9 8 (by assumption) ?_ (v := undef) (hy := Or.inr ⟨by rfl, rfl⟩)
          refine tk9 9 (by assumption) ?_ (v := undef) (hy := Or.inr ⟨by rfl, rfl⟩)
          refine tk9 10 (by assumption) ?_ (v := undef) (hy := Or.inr ⟨by rfl, rfl⟩)
          refine tk9 11 (by assumption) ?_ (v := undef) (hy := Or.inr ⟨by rfl, rfl⟩)
          refine tk9 12 (by assumption) ?_ (v := undef) (hy := Or.inr ⟨by rfl, rfl⟩)
          refine tk9 13 (by assumption) ?_ (v := undef) (hy := Or.inr ⟨by rfl, rfl⟩)
          refine tk9 14 (by assumption) ?_ (v := undef) (hy := Or.inr ⟨by rfl, rfl⟩)
          refine tk9 15 (by assumption) ?_ (v := undef) (hy := Or.inr ⟨by rfl, rfl⟩)
          refine tk9 16 (by assumption) ?_ (v := undef) (hy := Or.inr ⟨by rfl, rfl⟩)
          refine tk9 17 (by assumption) ?_ (v := undef) (hy := Or.inr ⟨by rfl, rfl⟩)
          refine tk9 18 (by assumption) ?_ (v := undef) (hy := Or.inr ⟨by rfl, rfl⟩)
          refine tk9 19 (by assumption) ?_ (v := undef) (hy := Or.inr ⟨by rfl, rfl⟩)
          refine tk9 20 (by assumption) ?_ (v := undef) (hy := Or.inr ⟨by rfl, rfl⟩)
          refine tk9 21 (by assumption) ?_ (v := undef) (hy := Or.inr ⟨by rfl, rfl⟩)
          refine tk9 22 (by assumption) ?_ (v := undef) (hy := Or.inr ⟨by rfl, rfl⟩)
          refine tk9 23 (by assumption) ?_ (v := undef) (hy := Or.inr ⟨by rfl, rfl⟩)
          refine tk9 24 (by assumption) ?_ (v := undef) (hy := Or.inr ⟨by rfl, rfl⟩)
          refine tk9 25 (by assumption) ?_ (v := undef) (hy := Or.inr ⟨by rfl, rfl⟩)
          refine tk9 26 (by assumption) ?_ (v := undef) (hy := Or.inr ⟨by rfl, rfl⟩)
          refine tk9 27 (by assumption) ?_ (v := undef) (hy := Or.inr ⟨by rfl, rfl⟩)
          refine tk9 28 (by assumption) ?_
          refine wpAnyH_done (by kernel_rfl) ?_ _
          refine NoPanic.normal ?_
          go_wp2_with fail
          go_ret
          exact ⟨by rw [epx.out (by first | rfl | trivial)]; rfl, trans9 HB.out (by (repeat' first | assumption | exact Below.refl _ _ | exact Nat.le_refl _ | apply kp_alloc | apply kp_set | apply Below.drew | omega))⟩
        | true =>
          by_cases k0 : k = 0
          · have hg := Lib.hid (hfst.out k0 (by first | rfl | trivial))
            clear hnxt hnot hfst epx hpo
            have dk : decide ((0 : Int) < (k : Int)) = false := by simp; omega
            have dk2 : decide (0 < k) = false := by simp; omega
            have hk1 := Lib.hid (show k + 1 = 1 by omega)
            clear k0
            go_wp2_with fail
            refine wp_region_noPanic ?_
            refine wp_region_held_drew (S := fun z => Below W1.heap.size W1 z) (by kernel_rfl) ?_ (fun hHeld => ?_)
            · exact Below.drew (Below.refl _ _)
            refine tk9 0 (by assumption) ?_
            refine tk9 1 (by assumption) ?_
            refine tk9 2 (by assumption) ?_
            refine tk9 3 (by assumption) ?_
            refine tk9 4 (by assumption) ?_
            refine wpAnyH_ready (rs := [5]) (by kernel_rfl) (by simp) ?_
            refine AllReadyH.cons (by simp only [List.getElem?_toArray, List.getElem?_cons_succ, List.getElem?_cons_zero]; rfl) (fun K hK => ?_) AllReadyH.nil
            try go_simp
            (go_at_call 26; refine (HPt.out _ (by first | assumption | exact Below.refl _ _ | (repeat' first | assumption | exact Below.refl _ _ | apply kp_alloc | apply Below.drew))).mono ?_; rintro e w2 ⟨rfl, b2⟩; have k2 : Below W1.heap.size W1 w2 := (by refine trans9 ?_ b2; (repeat' first | assumption | exact Below.refl _ _ | exact Nat.le_refl _ | apply kp_alloc | apply kp_set | apply Below.drew | omega)))
            refine hK.out _ _ ?_ (fun hHeld => ?_)
            · first | assumption | exact Below.drew (by assumption)
            clear hK K
            try simp only [Act.put, List.setIfInBounds_toArray, List.set_cons_zero, List.set_cons_succ]
            refine tk9 6 (by assumption) ?_
            refine tk9 7 (by assumption) ?_
            refine tk9 8 (by assumption) ?_
            refine tk9 9 (by assumption) ?_
            refine tk9 10 (by assumption) ?_
            refine tk9 11 (by assumption) ?_ (v := undef) (hy := Or.inr ⟨by rfl, rfl⟩)
            refine tk9 12 (by assumption) ?_ (v := undef) (hy := Or.inr ⟨by rfl, rfl⟩)
            refine tk9 13 (by assumption) ?_ (v := undef) (hy := Or.inr ⟨by rfl, rfl⟩)
            refine tk9 14 (by assumption) ?_ (v := undef) (hy := Or.inr ⟨by rfl, rfl⟩)
            refine tk9 15 (by assumption) ?_ (v := undef) (hy := Or.inr ⟨by rfl, rfl⟩)
            refine tk9 16 (by assumption) ?_ (v := undef) (hy := Or.inr ⟨by rfl, rfl⟩)
            refine tk9 17 (by assumption) ?_ (v := undef) (hy := Or.inr ⟨by rfl, rfl⟩)
            refine tk9 18 (by assumption) ?_ (v := undef) (hy := Or.inr ⟨by rfl, rfl⟩)
            refine tk9 19 (by assumption) ?_ (v := undef) (hy := Or.inr ⟨by rfl, rfl⟩)
            refine tk9 20 (by assumption) ?_ (v := undef) (hy := Or.inr ⟨by rfl, rfl⟩)
            refine tk9 21 (by assumption) ?_ (v := undef) (hy := Or.inr ⟨by rfl, rfl⟩)
            refine tk9 22 (by assumption) ?_ (v := undef) (hy := Or.inr ⟨by rfl, rfl⟩)
            refine tk9 23 (by assumption) ?_ (v := undef) (hy := Or.inr ⟨by rfl, rfl⟩)
            refine tk9 24 (by assumption) ?_ (v := undef) (hy := Or.inr ⟨by rfl, rfl⟩)
            refine tk9 25 (by assumption) ?_ (v := undef) (hy := Or.inr ⟨by rfl, rfl⟩)
            refine tk9 26 (by assumption) ?_ (v := undef) (hy := Or.inr ⟨by rfl, rfl⟩)
            refine tk9 27 (by assumption) ?_
            refine tk9 28 (by assumption) ?_
            refine wpAnyH_done (by kernel_rfl) ?_ _
            refine NoPanic.normal ?_
            go_wp2_with fail
            go_roundw
            case rel => exact ⟨k + 1, hkl, by go_num, by rw [hk1.out]; exact hg.out, trans9 HBB.out (by (repeat' first | assumption | exact Below.refl _ _ | exact Nat.le_refl _ | apply kp_alloc | apply kp_set | apply Below.drew | omega))⟩
            case measure => simp [intOf]; omega
          · obtain ⟨j, hj⟩ : ∃ j, k = j + 1 := ⟨k - 1, by omega⟩
            obtain ⟨y, hy, hyp⟩ := fs_get (show j < F.length by omega)
            have hg := Lib.hid (fun hcc => hnxt.out j y hj hyp (by first | rfl | trivial) hcc)
            have hno := Lib.hid (fun hcc => hnot.out j y hj hyp hcc)
            obtain ⟨d0, _⟩ := fr_cells HCC.out hy
            have s0 : ∀ z, Below W1.heap.size W1 z → z.cell? ⟨b, off + j * 5, none⟩ = some (.string (str y.hd.n)) := fun z hz => ((trans9 HB.out hz).cell (p := ⟨b, off + j * 5, none⟩) hbs).trans d0
            have dk : decide ((0 : Int) < (k : Int)) = true := by simp; omega
            have dk2 : decide (0 < k) = true := by simp; omega
            have hkj : (k : Int) - 1 = (j : Int) := by omega
            have hw1 : IntKind.i64.wrap (j : Int) = (j : Int) := IntWalk.i64_in _ (by omega)
            have hj0 : (0 : Int) ≤ (j : Int) := by omega
            have hj1 : (j : Int) < (F.length : Int) := by omega
            have hjl : j < F.length := by omega
            have hk2 := Lib.hid (show k + 1 = j + 2 by omega)
            rw [show ∀ q : Hd × List Pt, cmpF (fm y) q = cb y.hd.n q.1.n from fun _ => rfl] at hg hno
            dsimp only at hg hno
            generalize y.hd.n = yn at *
            have hbl := bl_cb yn xn
            clear d0 hnxt hnot hfst epx hy hyp hj k0 hpo
            by_cases hC : cb yn xn < 0
            · rw [decide_eq_true hC] at hbl
              have hgo := Lib.hid (hg.out hC)
              clear hg hno hC
              go_wp2_with fail
              refine wp_region_noPanic ?_
              refine wp_region_held_drew (S := fun z => Below W1.heap.size W1 z) (by kernel_rfl) ?_ (fun hHeld => ?_)
              · exact Below.drew (Below.refl _ _)
              refine tk9 0 (by assumption) ?_
              refine tk9 1 (by assumption) ?_
              refine tk9 2 (by assumption) ?_
              refine tk9 3 (by assumption) ?_
              refine tk9 4 (by assumption) ?_
              refine wpAnyH_ready (rs := [5]) (by kernel_rfl) (by simp) ?_
              refine AllReadyH.cons (by simp only [List.getElem?_toArray, List.getElem?_cons_succ, List.getElem?_cons_zero]; rfl) (fun K hK => ?_) AllReadyH.nil
              try go_simp
              (go_at_call 26; refine (HPt.out _ (by first | assumption | exact Below.refl _ _ | (repeat' first | assumption | exact Below.refl _ _ | apply kp_alloc | apply Below.drew))).mono ?_; rintro e w2 ⟨rfl, b2⟩; have k2 : Below W1.heap.size W1 w2 := (by refine trans9 ?_ b2; (repeat' first | assumption | exact Below.refl _ _ | exact Nat.le_refl _ | apply kp_alloc | apply kp_set | apply Below.drew | omega)))
              refine hK.out _ _ ?_ (fun hHeld => ?_)
              · first | assumption | exact Below.drew (by assumption)
              clear hK K
              try simp only [Act.put, List.setIfInBounds_toArray, List.set_cons_zero, List.set_cons_succ]
              refine tk9 6 (by assumption) ?_
              refine tk9 7 (by assumption) ?_
              refine tk9 8 (by assumption) ?_
              refine tk9 9 (by assumption) ?_
              refine tk9 10 (by assumption) ?_
              refine tk9 11 (by assumption) ?_
              refine tk9 12 (by assumption) ?_
              refine tk9 13 (by assumption) ?_
              refine tk9 14 (by assumption) ?_
              refine tk9 15 (by assumption) ?_
              refine tk9 16 (by assumption) ?_
              refine tk9 17 (by assumption) ?_
              refine tk9 18 (by assumption) ?_
              refine tk9 19 (by assumption) ?_
              refine tk9 20 (by assumption) ?_
              refine tk9 21 (by assumption) ?_
              refine tk9 22 (by assumption) ?_
              refine tk9 23 (by assumption) ?_
              refine tk9 24 (by assumption) ?_
              refine tk9 25 (by assumption) ?_
              refine tk9 26 (by assumption) ?_
              refine tk9 27 (by assumption) ?_
              refine tk9 28 (by assumption) ?_
              refine wpAnyH_done (by kernel_rfl) ?_ _
              refine NoPanic.normal ?_
              go_wp2_with fail
              go_roundw
              case rel => exact ⟨k + 1, hkl, by go_num, by rw [hk2.out]; exact hgo.out, trans9 HBB.out (by (repeat' first | assumption | exact Below.refl _ _ | exact Nat.le_refl _ | apply kp_alloc | apply kp_set | apply Below.drew | omega))⟩
              case measure => simp [intOf]; omega
            · rw [decide_eq_false hC] at hbl
              have hgo := Lib.hid (hno.out hC)
              clear hg hno hC
              go_wp2_with fail
              refine wp_region_noPanic ?_
              refine wp_region_held_drew (S := fun z => Below W1.heap.size W1 z) (by kernel_rfl) ?_ (fun hHeld => ?_)
              · exact Below.drew (Below.refl _ _)
              refine tk9 0 (by assumption) ?_
              refine tk9 1 (by assumption) ?_
              refine tk9 2 (by assumption) ?_
              refine tk9 3 (by assumption) ?_
              refine tk9 4 (by assumption) ?_
              refine wpAnyH_ready (rs := [5]) (by kernel_rfl) (by simp) ?_
              refine AllReadyH.cons (by simp only [List.getElem?_toArray, List.getElem?_cons_succ, List.getElem?_cons_zero]; rfl) (fun K hK => ?_) AllReadyH.nil
              try go_simp
              (go_at_call 26; refine (HPt.out _ (by first | assumption | exact Below.refl _ _ | (repeat' first | assumption | exact Below.refl _ _ | apply kp_alloc | apply Below.drew))).mono ?_; rintro e w2 ⟨rfl, b2⟩; have k2 : Below W1.heap.size W1 w2 := (by refine trans9 ?_ b2; (repeat' first | assumption | exact Below.refl _ _ | exact Nat.le_refl _ | apply kp_alloc | apply kp_set | apply Below.drew | omega)))
              refine hK.out _ _ ?_ (fun hHeld => ?_)
              · first | assumption | exact Below.drew (by assumption)
              clear hK K
              try simp only [Act.put, List.setIfInBounds_toArray, List.set_cons_zero, List.set_cons_succ]
              refine tk9 6 (by assumption) ?_
              refine tk9 7 (by assumption) ?_
              refine tk9 8 (by assumption) ?_
              refine tk9 9 (by assumption) ?_
              refine tk9 10 (by assumption) ?_
              refine tk9 11 (by assumption) ?_
              refine tk9 12 (by assumption) ?_
              refine tk9 13 (by assumption) ?_
              refine tk9 14 (by assumption) ?_
              refine tk9 15 (by assumption) ?_
              refine tk9 16 (by assumption) ?_
              refine tk9 17 (by assumption) ?_
              refine tk9 18 (by assumption) ?_
              refine tk9 19 (by assumption) ?_
              refine tk9 20 (by assumption) ?_
              refine tk9 21 (by assumption) ?_
              refine tk9 22 (by assumption) ?_
              refine tk9 23 (by assumption) ?_
              refine tk9 24 (by assumption) ?_
              refine tk9 25 (by assumption) ?_
              refine tk9 26 (by assumption) ?_
              refine tk9 27 (by assumption) ?_
              refine tk9 28 (by assumption) ?_
              refine wpAnyH_done (by kernel_rfl) ?_ _
              refine NoPanic.normal ?_
              go_wp2_with fail
              go_ret
              exact ⟨by rw [hgo.out]; rfl, trans9 HB.out (by (repeat' first | assumption | exact Below.refl _ _ | exact Nat.le_refl _ | apply kp_alloc | apply kp_set | apply Below.drew | omega))⟩
      · have hok := EB.out k H.out (by omega)
        have E14 := Lib.hid (e14.out hok)
        have E0 := Lib.hid (e0.out hok)
        clear hok hb
        by_cases h30 : (30 : Int) < (F.length : Int)
        · have d30 : decide ((30 : Int) < (F.length : Int)) = true := decide_eq_true h30
          have d30' : decide (30 < F.length) = true := by simp; omega
          have hr := Lib.hid (E14.out (Or.inl (by omega)))
          clear h30
          go_wp2
          go_ret
          exact ⟨by rw [hr.out]; rfl, HB.out⟩
        · have d30 : decide ((30 : Int) < (F.length : Int)) = false := decide_eq_false h30
          have d30' : decide (30 < F.length) = false := by simp; omega
          have H30 := Lib.hid (show F.length ≤ 30 by omega)
          clear h30
          go_wp2_with fail
          refine (hPn.out _ HB.out).mono ?_; rintro e w4 ⟨rfl, c4⟩
          have K4 := Lib.hid (trans9 HB.out c4)
          clear c4
          by_cases h120 : (120 : Int) < (np : Int)
          · have d120 : decide ((120 : Int) < (np : Int)) = true := decide_eq_true h120
            have d120' : decide (120 < np) = true := by simp; omega
            have hr := Lib.hid (E14.out (Or.inr (by omega)))
            clear h120
            go_wp2
            go_ret
            exact ⟨by rw [hr.out]; rfl, K4.out⟩
          · have d120 : decide ((120 : Int) < (np : Int)) = false := decide_eq_false h120
            have d120' : decide (120 < np) = false := by simp; omega
            have hr := Lib.hid (E0.out H30.out (by omega))
            clear h120
            go_wp2
            go_ret
            exact ⟨by rw [hr.out]; rfl, K4.out⟩

end Go.Proofs.YtgoibhbmndpgpaaGreatDoor
