/- The walk of the law PointParts. -/
import Derived.Test.YtefgedflinoojaaDoorPointK
import Derived.Test.YtefgedflinoojaaDoorGrd
import Derived.RegionTactic
set_option maxRecDepth 100000
set_option linter.unusedVariables false
set_option linter.unusedSimpArgs false
namespace Go.Proofs.YtefgedflinoojaaDoor
open Go.RowKit Dc
attribute [local go_sem ↓] Go.wp_at_zero Go.wp_at_succ

theorem two_new (w : World) (lv : Value) (p : Pt) (t : TypeId) :
    PtAt ((w.alloc (.cells (ptc lv p) t)).alloc (.cells (ptc lv p) t)).drew w.heap.size lv p ∧ PtAt ((w.alloc (.cells (ptc lv p) t)).alloc (.cells (ptc lv p) t)).drew (w.heap.size + 1) lv p ∧ Below w.heap.size w ((w.alloc (.cells (ptc lv p) t)).alloc (.cells (ptc lv p) t)).drew := by
  refine ⟨((PtAt.new w lv p t).alloc _).drew, ?_, (kp_alloc (kp_alloc (Below.refl _ _) _) _).drew⟩
  have h := PtAt.new (w.alloc (.cells (ptc lv p) t)) lv p t
  rw [show (w.alloc (.cells (ptc lv p) t)).heap.size = w.heap.size + 1 by simp] at h
  exact h.drew
theorem ff_self (a : Bool) : ffI a a = 0 := by unfold ffI; rw [if_pos rfl]
theorem ord3_self (x : Int) : ord3 x x = 0 := ord3_eq rfl
theorem cmpO_self (m s : Int) : cmpO m s m s = 0 := ord3_eq rfl
theorem orL_first {l : List Int} {k : Nat} {x : Int} (hx : x ≠ 0) (h : ∀ i, i < k → l[i]? = some 0) (hk : l[k]? = some x) : orL l = x := by
  induction k generalizing l with
  | zero =>
    match l, hk with
    | y :: l, hk => obtain rfl : y = x := by simpa using hk
                    rw [orL, if_neg hx]
  | succ k ih =>
    match l, hk with
    | y :: l, hk =>
      have h0 := h 0 (by omega)
      obtain rfl : y = 0 := by simpa using h0
      rw [orL, if_pos rfl]
      exact ih (fun i hi => by simpa using h (i + 1) (by omega)) (by simpa using hk)
theorem fit_a : Fit [([97], [])] := fun x hx => by
  obtain rfl : x = ([97], []) := by simpa using hx
  exact ⟨by decide, by decide⟩
/-- x ahead of y, as the law asks -/
structure Ahead (x y : Pt) : Prop where
  lt : cmpP x y = -1
  gt : cmpP y x = 1
  ne : sameP x y = false
theorem Ahead.of {x y : Pt} (h : cmpP x y = -1) (k : cmpP y x = 1) : Ahead x y := ⟨h, k, by unfold sameP; rw [h]; simp⟩
theorem cmpO_int {a b : Int} (h : a < b) (h1 : -9223372036854775808 < a) (h2 : b ≤ 9223372036854775807) : cmpO a 0 b 0 = -1 ∧ cmpO b 0 a 0 = 1 := by
  have ga : goodD a 0 = true := (goodD_iff a 0).2 ⟨by omega, by omega, by omega, Or.inl rfl⟩
  have gb : goodD b 0 = true := (goodD_iff b 0).2 ⟨by omega, by omega, by omega, Or.inl rfl⟩
  unfold cmpO
  rw [orZ_good ga, orZ_good gb]
  have e : ∀ x, zv x 0 = x * 1000000000000000000 := fun x => by unfold zv; rfl
  rw [e, e]
  exact ⟨ord3_lt (by omega), ord3_gt (by omega)⟩

set_option maxHeartbeats 8000000 in
theorem parts_walk (v : Value) (p : Pt) (part a b : Int) (w : World) (hv : LbRow w v p.l) (hp : PtIn p) (p0 : 0 ≤ part) (p1 : part ≤ 255) (a0 : -2147483648 ≤ a) (a1 : a ≤ 2147483647) (b0 : -2147483648 ≤ b) (b1 : b ≤ 2147483647) (hT : ShPl w) :
    Calls Tryd.prog 3 #[ptv v p, .int .u8 part, .int .i32 a, .int .i32 b] w fun e w' => e = .returned (.bool true) ∧ Below w.heap.size w w' := by
  obtain ⟨l, ro, inf, bm, bs, m, s, td, ti⟩ := p
  dsimp only at hv
  have kB := kp_alloc (Below.refl w.heap.size w) (.cells #[v, .int .i64 ro, .bool inf, .int .i64 bm, .int .i64 bs, .int .i64 m, .int .i64 s, .bool td, .int .i64 ti] 26)
  have hT0 := hT.below kB
  have hv0 := hv.below kB
  obtain ⟨A, cap, rfl, _⟩ := hv
  have K0 := Lib.hid kB
  clear kB hT
  dsimp only [ptv]
  go_enter Tryd.func3, Tryd.ntmps3
  go_wp2_with fail
  refine (pknown_calls _ hT0).mono ?_; rintro e w1 ⟨rfl, c1⟩
  have K1 := Lib.hid (trans9 K0.out c1)
  have hv1 := hv0.below c1
  obtain ⟨q1, f1⟩ := bcell c1
  have x1 : w.heap.size < w1.heap.size := Nat.lt_of_lt_of_le (by simp) c1.size
  clear c1 hT0 hv0
  have hsh := pshort_calls (.slice A l.length cap) ⟨l, ro, inf, bm, bs, m, s, td, ti⟩ w1 hv1
  have HS := Lib.hid hsh
  have P1 : PtAt w1 w.heap.size (.slice A l.length cap) ⟨l, ro, inf, bm, bs, m, s, td, ti⟩ := ⟨by rw [q1 _ _ (by simp)]; simp, by rw [q1 _ _ (by simp)]; simp, by rw [q1 _ _ (by simp)]; simp, by rw [q1 _ _ (by simp)]; simp, by rw [q1 _ _ (by simp)]; simp, by rw [q1 _ _ (by simp)]; simp, by rw [q1 _ _ (by simp)]; simp, by rw [q1 _ _ (by simp)]; simp, by rw [q1 _ _ (by simp)]; simp, fun o => by rw [f1 _ _ (by simp)]; simp, x1⟩
  clear hsh
  generalize l.length = n at *
  go_wp2_with fail
  refine HS.out.mono ?_; rintro e w2 ⟨he, c2⟩
  have K2 := Lib.hid (trans9 K1.out c2)
  have hv2 := hv1.below c2
  have P2 := P1.below c2
  clear c2 HS hv1 P1 q1 f1 x1
  rcases he.ways with rfl | rfl
  · go_wp2
    go_ret
    exact ⟨rfl, K2.out⟩
  by_cases hab : a = b
  · have d : (a == b) = true := by simpa using hab
    go_wp2
    go_ret
    exact ⟨rfl, K2.out⟩
  have d : (a == b) = false := by simpa using hab
  go_upto_region 6 with fail
  obtain ⟨lo, hlo⟩ : ∃ lo, lo = min a b := ⟨_, rfl⟩
  obtain ⟨hi, hhi⟩ : ∃ hi, hi = max a b := ⟨_, rfl⟩
  rw [← hlo, ← hhi]
  have hlt : lo < hi := by omega
  have hl1 : -2147483648 ≤ lo := by omega
  have hh1 : hi ≤ 2147483647 := by omega
  clear hab d hlo hhi a0 a1 b0 b1
  go_cut [11, 12] (fun s11 s12 wx => ∃ g1 g2 : Nat, s11 = .pointer (some ⟨g1, 0, none⟩) ∧ s12 = .pointer (some ⟨g2, 0, none⟩) ∧ g1 ≠ g2 ∧ w2.heap.size ≤ g1 ∧ w2.heap.size ≤ g2 ∧ Below w2.heap.size w2 wx ∧ PtAt wx g1 (.slice A n cap) ⟨l, ro, inf, bm, bs, m, s, td, ti⟩ ∧ PtAt wx g2 (.slice A n cap) ⟨l, ro, inf, bm, bs, m, s, td, ti⟩)
  case first =>
    obtain ⟨q0, q1, q2, q3, q4, q5, q6, q7, q8, qf, qlt⟩ := P2
    dsimp only at q0 q1 q2 q3 q4 q5 q6 q7 q8
    go_region
    all_goals
      go_wp2_with fail
      go_meet
      have hn := two_new w2 (.slice A n cap) ⟨l, ro, inf, bm, bs, m, s, td, ti⟩ 26
      exact ⟨_, _, rfl, rfl, by omega, by omega, by omega, hn.2.2, by first | exact hn.1 | exact hn.2.1, by first | exact hn.2.1 | exact hn.1⟩
  case rest =>
    obtain ⟨g1, g2, rfl, rfl, hne, hg1, hg2, c3, X1, X2⟩ := hcut
    clear P2
    have hne2 : g2 ≠ g1 := fun e => hne e.symm
    have hv3 := hv2
    have ht : part.tmod 5 = part % 5 := Int.tmod_eq_emod_of_nonneg p0
    have hw : ∀ i : Int, 0 ≤ i → i < 5 → IntKind.u8.wrap i = i := fun i h1 h2 => by
      rcases (by omega : i = 0 ∨ i = 1 ∨ i = 2 ∨ i = 3 ∨ i = 4) with rfl | rfl | rfl | rfl | rfl <;> rfl
    rcases (by omega : part % 5 = 0 ∨ part % 5 = 1 ∨ part % 5 = 2 ∨ part % 5 = 3 ∨ part % 5 = 4) with hk | hk | hk | hk | hk
    · have hm : part.tmod 5 = 0 := by rw [ht]; exact hk
      have hk2 : part % 5 = 0 := hk
      have HA : Ahead ⟨[], ro, inf, bm, bs, m, s, td, ti⟩ ⟨[([97], [])], ro, inf, bm, bs, m, s, td, ti⟩ := Ahead.of (orL_first (k := 0) (x := -1) (by omega) (fun i hi => by omega) (by rfl)) (orL_first (k := 0) (x := 1) (by omega) (fun i hi => by omega) (by rfl))
      have IX : PtIn ⟨[], ro, inf, bm, bs, m, s, td, ti⟩ := ⟨hp.bm1, hp.bm2, hp.m1, hp.m2, hp.t1, hp.t2, fun x hx => by cases hx⟩
      have IY : PtIn ⟨[([97], [])], ro, inf, bm, bs, m, s, td, ti⟩ := ⟨hp.bm1, hp.bm2, hp.m1, hp.m2, hp.t1, hp.t2, fit_a⟩
      clear hk ht p0 p1 hlt hl1 hh1 hp
      obtain ⟨x0, x1, x2, x3, x4, x5, x6, x7, x8, xf, xlt⟩ := X1
      obtain ⟨y0, y1, y2, y3, y4, y5, y6, y7, y8, yf, ylt⟩ := X2
      dsimp only at x0 x1 x2 x3 x4 x5 x6 x7 x8 y0 y1 y2 y3 y4 y5 y6 y7 y8
      go_upto_region 17 with fail
      obtain ⟨W4, hW4⟩ : ∃ W4 : World, W4 = (((wc.setCell ⟨g1, 0, none⟩ (.slice none 0 0)).setCell ⟨g2, 0, none⟩ (.slice (some ⟨wc.heap.size, 0, none⟩) 1 1)).alloc (.cells #[.string ⟨#[97]⟩, .string ⟨#[]⟩] 30)) := ⟨_, rfl⟩
      have z1 : g1 ≠ wc.heap.size := by omega
      have z2 : g2 ≠ wc.heap.size := by omega
      have z3 : wc.heap.size ≠ g1 := by omega
      have z4 : wc.heap.size ≠ g2 := by omega
      have PX : PtAt W4 g1 (.slice none 0 0) ⟨[], ro, inf, bm, bs, m, s, td, ti⟩ := by
        rw [hW4]
        refine ⟨?_, ?_, ?_, ?_, ?_, ?_, ?_, ?_, ?_, fun o => ?_, ?_⟩
        all_goals first | (go_simp; done) | (simp; omega) | (simp [World.setCell]; done) | (simp [World.setCell]; omega)
      have PY : PtAt W4 g2 (.slice (some ⟨wc.heap.size, 0, none⟩) 1 1) ⟨[([97], [])], ro, inf, bm, bs, m, s, td, ti⟩ := by
        rw [hW4]
        refine ⟨?_, ?_, ?_, ?_, ?_, ?_, ?_, ?_, ?_, fun o => ?_, ?_⟩
        all_goals first | (go_simp; done) | (simp; omega) | (simp [World.setCell]; done) | (simp [World.setCell]; omega)
      have k4 : Below w2.heap.size w2 W4 := by
        rw [hW4]
        (repeat' first | assumption | exact Below.refl _ _ | apply kp_set | apply kp_alloc)
      have hLX := LbRow.nil W4
      have hLY : LbRow W4 (.slice (some ⟨wc.heap.size, 0, none⟩) 1 1) [([97], [])] := by
        refine ⟨_, 1, rfl, Nat.le_refl _, by unfold maxLen; omega, (by rintro ⟨⟩), fun _ => ⟨wc.heap.size, 0, rfl, by rw [hW4]; simp [World.setCell], fun i p hp => ?_⟩⟩
        match i, hp with
        | 0, hp =>
          obtain rfl : ([97], []) = p := by simpa using hp
          rw [hW4]
          constructor <;> go_simp <;> rfl
      have HC1 := Lib.hid (fun W h1 h2 => pcompare_calls (.slice none 0 0) (.slice (some ⟨wc.heap.size, 0, none⟩) 1 1) ⟨[], ro, inf, bm, bs, m, s, td, ti⟩ ⟨[([97], [])], ro, inf, bm, bs, m, s, td, ti⟩ W h1 h2 IX IY)
      have HC2 := Lib.hid (fun W h1 h2 => pcompare_calls (.slice (some ⟨wc.heap.size, 0, none⟩) 1 1) (.slice none 0 0) ⟨[([97], [])], ro, inf, bm, bs, m, s, td, ti⟩ ⟨[], ro, inf, bm, bs, m, s, td, ti⟩ W h1 h2 IY IX)
      have HC3 := Lib.hid (fun W h1 h2 => psame_calls (.slice none 0 0) (.slice (some ⟨wc.heap.size, 0, none⟩) 1 1) ⟨[], ro, inf, bm, bs, m, s, td, ti⟩ ⟨[([97], [])], ro, inf, bm, bs, m, s, td, ti⟩ W h1 h2 IX IY)
      rw [HA.lt] at HC1
      rw [HA.gt] at HC2
      rw [HA.ne] at HC3
      dsimp only at HC1 HC2 HC3
      have K5 := Lib.hid (trans9 K2.out k4)
      rw [← hW4]
      clear hW4 k4 HA IX IY hv2 hv3 c3 x0 x1 x2 x3 x4 x5 x6 x7 x8 xf xlt y0 y1 y2 y3 y4 y5 y6 y7 y8 yf ylt hg1 hg2 K2 hm hk2 hw hne hne2 z1 z2 z3 z4
      have PX2 := PX
      have PY2 := PY
      obtain ⟨x0, x1, x2, x3, x4, x5, x6, x7, x8, xf, xlt⟩ := PX2
      obtain ⟨y0, y1, y2, y3, y4, y5, y6, y7, y8, yf, ylt⟩ := PY2
      dsimp only at x0 x1 x2 x3 x4 x5 x6 x7 x8 y0 y1 y2 y3 y4 y5 y6 y7 y8
      go_wp2_with fail
      refine (HC1.out _ hLX hLY).mono ?_; rintro e w5 ⟨rfl, b5⟩
      clear x0 x1 x2 x3 x4 x5 x6 x7 x8 xf xlt y0 y1 y2 y3 y4 y5 y6 y7 y8 yf ylt
      have K6 := Lib.hid (trans9 K5.out b5)
      replace PX := PX.below b5
      replace PY := PY.below b5
      replace hLX := hLX.below b5
      replace hLY := hLY.below b5
      clear b5
      have PX2 := PX
      have PY2 := PY
      obtain ⟨x0, x1, x2, x3, x4, x5, x6, x7, x8, xf, xlt⟩ := PX2
      obtain ⟨y0, y1, y2, y3, y4, y5, y6, y7, y8, yf, ylt⟩ := PY2
      dsimp only at x0 x1 x2 x3 x4 x5 x6 x7 x8 y0 y1 y2 y3 y4 y5 y6 y7 y8
      go_wp2_with fail
      refine (HC2.out _ hLY hLX).mono ?_; rintro e w6 ⟨rfl, b6⟩
      clear x0 x1 x2 x3 x4 x5 x6 x7 x8 xf xlt y0 y1 y2 y3 y4 y5 y6 y7 y8 yf ylt
      have K7 := Lib.hid (trans9 K6.out b6)
      replace PX := PX.below b6
      replace PY := PY.below b6
      replace hLX := hLX.below b6
      replace hLY := hLY.below b6
      clear b6
      have PX2 := PX
      have PY2 := PY
      obtain ⟨x0, x1, x2, x3, x4, x5, x6, x7, x8, xf, xlt⟩ := PX2
      obtain ⟨y0, y1, y2, y3, y4, y5, y6, y7, y8, yf, ylt⟩ := PY2
      dsimp only at x0 x1 x2 x3 x4 x5 x6 x7 x8 y0 y1 y2 y3 y4 y5 y6 y7 y8
      go_wp2_with fail
      refine (HC3.out _ hLX hLY).mono ?_; rintro e w7 ⟨rfl, b7⟩
      clear x0 x1 x2 x3 x4 x5 x6 x7 x8 xf xlt y0 y1 y2 y3 y4 y5 y6 y7 y8 yf ylt
      have K8 := Lib.hid (trans9 K7.out b7)
      replace PX := PX.below b7
      replace PY := PY.below b7
      replace hLX := hLX.below b7
      replace hLY := hLY.below b7
      clear b7
      go_wp2_with fail
      go_ret
      exact ⟨rfl, K8.out⟩
    · have hm : part.tmod 5 = 1 := by rw [ht]; exact hk
      have hk2 : part % 5 = 1 := hk
      have HA : Ahead ⟨l, ro, inf, bm, bs, m, s, false, 0⟩ ⟨l, ro, inf, bm, bs, m, s, true, lo⟩ := Ahead.of (orL_first (k := 1) (x := -1) (by omega) (fun i hi => by rcases (by omega : i = 0) with rfl <;> simp [cmpPL, cmpL_refl, ff_self, ord3_self, cmpO_self]) (by rfl)) (orL_first (k := 1) (x := 1) (by omega) (fun i hi => by rcases (by omega : i = 0) with rfl <;> simp [cmpPL, cmpL_refl, ff_self, ord3_self, cmpO_self]) (by rfl))
      have IX : PtIn ⟨l, ro, inf, bm, bs, m, s, false, 0⟩ := ⟨hp.bm1, hp.bm2, hp.m1, hp.m2, by dsimp only; omega, by dsimp only; omega, hp.fit⟩
      have IY : PtIn ⟨l, ro, inf, bm, bs, m, s, true, lo⟩ := ⟨hp.bm1, hp.bm2, hp.m1, hp.m2, by dsimp only; omega, by dsimp only; omega, hp.fit⟩
      clear hk ht p0 p1 hlt hl1 hh1 hp
      obtain ⟨x0, x1, x2, x3, x4, x5, x6, x7, x8, xf, xlt⟩ := X1
      obtain ⟨y0, y1, y2, y3, y4, y5, y6, y7, y8, yf, ylt⟩ := X2
      dsimp only at x0 x1 x2 x3 x4 x5 x6 x7 x8 y0 y1 y2 y3 y4 y5 y6 y7 y8
      go_upto_region 17 with fail
      obtain ⟨W4, hW4⟩ : ∃ W4 : World, W4 = ((((wc.setCell ⟨g1, 7, none⟩ (.bool false)).setCell ⟨g2, 7, none⟩ (.bool true)).setCell ⟨g1, 8, none⟩ (.int .i64 0)).setCell ⟨g2, 8, none⟩ (.int .i64 lo)) := ⟨_, rfl⟩
      have PX : PtAt W4 g1 (.slice A n cap) ⟨l, ro, inf, bm, bs, m, s, false, 0⟩ := by
        rw [hW4]
        refine ⟨?_, ?_, ?_, ?_, ?_, ?_, ?_, ?_, ?_, fun o => ?_, ?_⟩
        all_goals first | (go_simp; done) | (simp; omega) | (simp [World.setCell]; done) | (simp [World.setCell]; omega)
      have PY : PtAt W4 g2 (.slice A n cap) ⟨l, ro, inf, bm, bs, m, s, true, lo⟩ := by
        rw [hW4]
        refine ⟨?_, ?_, ?_, ?_, ?_, ?_, ?_, ?_, ?_, fun o => ?_, ?_⟩
        all_goals first | (go_simp; done) | (simp; omega) | (simp [World.setCell]; done) | (simp [World.setCell]; omega)
      have k4 : Below w2.heap.size w2 W4 := by
        rw [hW4]
        (repeat' first | assumption | exact Below.refl _ _ | apply kp_set | apply kp_alloc)
      have hLX := hv2.below k4
      have hLY := hLX
      have HC1 := Lib.hid (fun W h1 h2 => pcompare_calls (.slice A n cap) (.slice A n cap) ⟨l, ro, inf, bm, bs, m, s, false, 0⟩ ⟨l, ro, inf, bm, bs, m, s, true, lo⟩ W h1 h2 IX IY)
      have HC2 := Lib.hid (fun W h1 h2 => pcompare_calls (.slice A n cap) (.slice A n cap) ⟨l, ro, inf, bm, bs, m, s, true, lo⟩ ⟨l, ro, inf, bm, bs, m, s, false, 0⟩ W h1 h2 IY IX)
      have HC3 := Lib.hid (fun W h1 h2 => psame_calls (.slice A n cap) (.slice A n cap) ⟨l, ro, inf, bm, bs, m, s, false, 0⟩ ⟨l, ro, inf, bm, bs, m, s, true, lo⟩ W h1 h2 IX IY)
      rw [HA.lt] at HC1
      rw [HA.gt] at HC2
      rw [HA.ne] at HC3
      dsimp only at HC1 HC2 HC3
      have K5 := Lib.hid (trans9 K2.out k4)
      rw [← hW4]
      clear hW4 k4 HA IX IY hv2 hv3 c3 x0 x1 x2 x3 x4 x5 x6 x7 x8 xf xlt y0 y1 y2 y3 y4 y5 y6 y7 y8 yf ylt hg1 hg2 K2 hm hk2 hw hne hne2
      have PX2 := PX
      have PY2 := PY
      obtain ⟨x0, x1, x2, x3, x4, x5, x6, x7, x8, xf, xlt⟩ := PX2
      obtain ⟨y0, y1, y2, y3, y4, y5, y6, y7, y8, yf, ylt⟩ := PY2
      dsimp only at x0 x1 x2 x3 x4 x5 x6 x7 x8 y0 y1 y2 y3 y4 y5 y6 y7 y8
      go_wp2_with fail
      refine (HC1.out _ hLX hLY).mono ?_; rintro e w5 ⟨rfl, b5⟩
      clear x0 x1 x2 x3 x4 x5 x6 x7 x8 xf xlt y0 y1 y2 y3 y4 y5 y6 y7 y8 yf ylt
      have K6 := Lib.hid (trans9 K5.out b5)
      replace PX := PX.below b5
      replace PY := PY.below b5
      replace hLX := hLX.below b5
      replace hLY := hLY.below b5
      clear b5
      have PX2 := PX
      have PY2 := PY
      obtain ⟨x0, x1, x2, x3, x4, x5, x6, x7, x8, xf, xlt⟩ := PX2
      obtain ⟨y0, y1, y2, y3, y4, y5, y6, y7, y8, yf, ylt⟩ := PY2
      dsimp only at x0 x1 x2 x3 x4 x5 x6 x7 x8 y0 y1 y2 y3 y4 y5 y6 y7 y8
      go_wp2_with fail
      refine (HC2.out _ hLY hLX).mono ?_; rintro e w6 ⟨rfl, b6⟩
      clear x0 x1 x2 x3 x4 x5 x6 x7 x8 xf xlt y0 y1 y2 y3 y4 y5 y6 y7 y8 yf ylt
      have K7 := Lib.hid (trans9 K6.out b6)
      replace PX := PX.below b6
      replace PY := PY.below b6
      replace hLX := hLX.below b6
      replace hLY := hLY.below b6
      clear b6
      have PX2 := PX
      have PY2 := PY
      obtain ⟨x0, x1, x2, x3, x4, x5, x6, x7, x8, xf, xlt⟩ := PX2
      obtain ⟨y0, y1, y2, y3, y4, y5, y6, y7, y8, yf, ylt⟩ := PY2
      dsimp only at x0 x1 x2 x3 x4 x5 x6 x7 x8 y0 y1 y2 y3 y4 y5 y6 y7 y8
      go_wp2_with fail
      refine (HC3.out _ hLX hLY).mono ?_; rintro e w7 ⟨rfl, b7⟩
      clear x0 x1 x2 x3 x4 x5 x6 x7 x8 xf xlt y0 y1 y2 y3 y4 y5 y6 y7 y8 yf ylt
      have K8 := Lib.hid (trans9 K7.out b7)
      replace PX := PX.below b7
      replace PY := PY.below b7
      replace hLX := hLX.below b7
      replace hLY := hLY.below b7
      clear b7
      go_wp2_with fail
      go_ret
      exact ⟨rfl, K8.out⟩
    · have hm : part.tmod 5 = 2 := by rw [ht]; exact hk
      have hk2 : part % 5 = 2 := hk
      have HA : Ahead ⟨l, ro, inf, bm, bs, m, s, true, lo⟩ ⟨l, ro, inf, bm, bs, m, s, true, hi⟩ := Ahead.of (orL_first (k := 2) (x := -1) (by omega) (fun i hi => by rcases (by omega : i = 0 ∨ i = 1) with rfl | rfl <;> simp [cmpPL, cmpL_refl, ff_self, ord3_self, cmpO_self]) (by simp [cmpPL, ord3_lt hlt])) (orL_first (k := 2) (x := 1) (by omega) (fun i hi => by rcases (by omega : i = 0 ∨ i = 1) with rfl | rfl <;> simp [cmpPL, cmpL_refl, ff_self, ord3_self, cmpO_self]) (by simp [cmpPL, ord3_gt hlt]))
      have IX : PtIn ⟨l, ro, inf, bm, bs, m, s, true, lo⟩ := ⟨hp.bm1, hp.bm2, hp.m1, hp.m2, by dsimp only; omega, by dsimp only; omega, hp.fit⟩
      have IY : PtIn ⟨l, ro, inf, bm, bs, m, s, true, hi⟩ := ⟨hp.bm1, hp.bm2, hp.m1, hp.m2, by dsimp only; omega, by dsimp only; omega, hp.fit⟩
      clear hk ht p0 p1 hlt hl1 hh1 hp
      obtain ⟨x0, x1, x2, x3, x4, x5, x6, x7, x8, xf, xlt⟩ := X1
      obtain ⟨y0, y1, y2, y3, y4, y5, y6, y7, y8, yf, ylt⟩ := X2
      dsimp only at x0 x1 x2 x3 x4 x5 x6 x7 x8 y0 y1 y2 y3 y4 y5 y6 y7 y8
      go_upto_region 17 with fail
      obtain ⟨W4, hW4⟩ : ∃ W4 : World, W4 = ((((wc.setCell ⟨g1, 7, none⟩ (.bool true)).setCell ⟨g2, 7, none⟩ (.bool true)).setCell ⟨g1, 8, none⟩ (.int .i64 lo)).setCell ⟨g2, 8, none⟩ (.int .i64 hi)) := ⟨_, rfl⟩
      have PX : PtAt W4 g1 (.slice A n cap) ⟨l, ro, inf, bm, bs, m, s, true, lo⟩ := by
        rw [hW4]
        refine ⟨?_, ?_, ?_, ?_, ?_, ?_, ?_, ?_, ?_, fun o => ?_, ?_⟩
        all_goals first | (go_simp; done) | (simp; omega) | (simp [World.setCell]; done) | (simp [World.setCell]; omega)
      have PY : PtAt W4 g2 (.slice A n cap) ⟨l, ro, inf, bm, bs, m, s, true, hi⟩ := by
        rw [hW4]
        refine ⟨?_, ?_, ?_, ?_, ?_, ?_, ?_, ?_, ?_, fun o => ?_, ?_⟩
        all_goals first | (go_simp; done) | (simp; omega) | (simp [World.setCell]; done) | (simp [World.setCell]; omega)
      have k4 : Below w2.heap.size w2 W4 := by
        rw [hW4]
        (repeat' first | assumption | exact Below.refl _ _ | apply kp_set | apply kp_alloc)
      have hLX := hv2.below k4
      have hLY := hLX
      have HC1 := Lib.hid (fun W h1 h2 => pcompare_calls (.slice A n cap) (.slice A n cap) ⟨l, ro, inf, bm, bs, m, s, true, lo⟩ ⟨l, ro, inf, bm, bs, m, s, true, hi⟩ W h1 h2 IX IY)
      have HC2 := Lib.hid (fun W h1 h2 => pcompare_calls (.slice A n cap) (.slice A n cap) ⟨l, ro, inf, bm, bs, m, s, true, hi⟩ ⟨l, ro, inf, bm, bs, m, s, true, lo⟩ W h1 h2 IY IX)
      have HC3 := Lib.hid (fun W h1 h2 => psame_calls (.slice A n cap) (.slice A n cap) ⟨l, ro, inf, bm, bs, m, s, true, lo⟩ ⟨l, ro, inf, bm, bs, m, s, true, hi⟩ W h1 h2 IX IY)
      rw [HA.lt] at HC1
      rw [HA.gt] at HC2
      rw [HA.ne] at HC3
      dsimp only at HC1 HC2 HC3
      have K5 := Lib.hid (trans9 K2.out k4)
      rw [← hW4]
      clear hW4 k4 HA IX IY hv2 hv3 c3 x0 x1 x2 x3 x4 x5 x6 x7 x8 xf xlt y0 y1 y2 y3 y4 y5 y6 y7 y8 yf ylt hg1 hg2 K2 hm hk2 hw hne hne2
      have PX2 := PX
      have PY2 := PY
      obtain ⟨x0, x1, x2, x3, x4, x5, x6, x7, x8, xf, xlt⟩ := PX2
      obtain ⟨y0, y1, y2, y3, y4, y5, y6, y7, y8, yf, ylt⟩ := PY2
      dsimp only at x0 x1 x2 x3 x4 x5 x6 x7 x8 y0 y1 y2 y3 y4 y5 y6 y7 y8
      go_wp2_with fail
      refine (HC1.out _ hLX hLY).mono ?_; rintro e w5 ⟨rfl, b5⟩
      clear x0 x1 x2 x3 x4 x5 x6 x7 x8 xf xlt y0 y1 y2 y3 y4 y5 y6 y7 y8 yf ylt
      have K6 := Lib.hid (trans9 K5.out b5)
      replace PX := PX.below b5
      replace PY := PY.below b5
      replace hLX := hLX.below b5
      replace hLY := hLY.below b5
      clear b5
      have PX2 := PX
      have PY2 := PY
      obtain ⟨x0, x1, x2, x3, x4, x5, x6, x7, x8, xf, xlt⟩ := PX2
      obtain ⟨y0, y1, y2, y3, y4, y5, y6, y7, y8, yf, ylt⟩ := PY2
      dsimp only at x0 x1 x2 x3 x4 x5 x6 x7 x8 y0 y1 y2 y3 y4 y5 y6 y7 y8
      go_wp2_with fail
      refine (HC2.out _ hLY hLX).mono ?_; rintro e w6 ⟨rfl, b6⟩
      clear x0 x1 x2 x3 x4 x5 x6 x7 x8 xf xlt y0 y1 y2 y3 y4 y5 y6 y7 y8 yf ylt
      have K7 := Lib.hid (trans9 K6.out b6)
      replace PX := PX.below b6
      replace PY := PY.below b6
      replace hLX := hLX.below b6
      replace hLY := hLY.below b6
      clear b6
      have PX2 := PX
      have PY2 := PY
      obtain ⟨x0, x1, x2, x3, x4, x5, x6, x7, x8, xf, xlt⟩ := PX2
      obtain ⟨y0, y1, y2, y3, y4, y5, y6, y7, y8, yf, ylt⟩ := PY2
      dsimp only at x0 x1 x2 x3 x4 x5 x6 x7 x8 y0 y1 y2 y3 y4 y5 y6 y7 y8
      go_wp2_with fail
      refine (HC3.out _ hLX hLY).mono ?_; rintro e w7 ⟨rfl, b7⟩
      clear x0 x1 x2 x3 x4 x5 x6 x7 x8 xf xlt y0 y1 y2 y3 y4 y5 y6 y7 y8 yf ylt
      have K8 := Lib.hid (trans9 K7.out b7)
      replace PX := PX.below b7
      replace PY := PY.below b7
      replace hLX := hLX.below b7
      replace hLY := hLY.below b7
      clear b7
      go_wp2_with fail
      go_ret
      exact ⟨rfl, K8.out⟩
    · have hm : part.tmod 5 = 3 := by rw [ht]; exact hk
      have hk2 : part % 5 = 3 := hk
      have HA : Ahead ⟨l, lo, inf, bm, bs, m, s, td, ti⟩ ⟨l, hi, inf, bm, bs, m, s, td, ti⟩ := Ahead.of (orL_first (k := 3) (x := -1) (by omega) (fun i hi => by rcases (by omega : i = 0 ∨ i = 1 ∨ i = 2) with rfl | rfl | rfl <;> simp [cmpPL, cmpL_refl, ff_self, ord3_self, cmpO_self]) (by simp [cmpPL, ord3_lt hlt])) (orL_first (k := 3) (x := 1) (by omega) (fun i hi => by rcases (by omega : i = 0 ∨ i = 1 ∨ i = 2) with rfl | rfl | rfl <;> simp [cmpPL, cmpL_refl, ff_self, ord3_self, cmpO_self]) (by simp [cmpPL, ord3_gt hlt]))
      have IX : PtIn ⟨l, lo, inf, bm, bs, m, s, td, ti⟩ := ⟨hp.bm1, hp.bm2, hp.m1, hp.m2, hp.t1, hp.t2, hp.fit⟩
      have IY : PtIn ⟨l, hi, inf, bm, bs, m, s, td, ti⟩ := ⟨hp.bm1, hp.bm2, hp.m1, hp.m2, hp.t1, hp.t2, hp.fit⟩
      clear hk ht p0 p1 hlt hl1 hh1 hp
      obtain ⟨x0, x1, x2, x3, x4, x5, x6, x7, x8, xf, xlt⟩ := X1
      obtain ⟨y0, y1, y2, y3, y4, y5, y6, y7, y8, yf, ylt⟩ := X2
      dsimp only at x0 x1 x2 x3 x4 x5 x6 x7 x8 y0 y1 y2 y3 y4 y5 y6 y7 y8
      go_upto_region 17 with fail
      obtain ⟨W4, hW4⟩ : ∃ W4 : World, W4 = ((wc.setCell ⟨g1, 1, none⟩ (.int .i64 lo)).setCell ⟨g2, 1, none⟩ (.int .i64 hi)) := ⟨_, rfl⟩
      have PX : PtAt W4 g1 (.slice A n cap) ⟨l, lo, inf, bm, bs, m, s, td, ti⟩ := by
        rw [hW4]
        refine ⟨?_, ?_, ?_, ?_, ?_, ?_, ?_, ?_, ?_, fun o => ?_, ?_⟩
        all_goals first | (go_simp; done) | (simp; omega) | (simp [World.setCell]; done) | (simp [World.setCell]; omega)
      have PY : PtAt W4 g2 (.slice A n cap) ⟨l, hi, inf, bm, bs, m, s, td, ti⟩ := by
        rw [hW4]
        refine ⟨?_, ?_, ?_, ?_, ?_, ?_, ?_, ?_, ?_, fun o => ?_, ?_⟩
        all_goals first | (go_simp; done) | (simp; omega) | (simp [World.setCell]; done) | (simp [World.setCell]; omega)
      have k4 : Below w2.heap.size w2 W4 := by
        rw [hW4]
        (repeat' first | assumption | exact Below.refl _ _ | apply kp_set | apply kp_alloc)
      have hLX := hv2.below k4
      have hLY := hLX
      have HC1 := Lib.hid (fun W h1 h2 => pcompare_calls (.slice A n cap) (.slice A n cap) ⟨l, lo, inf, bm, bs, m, s, td, ti⟩ ⟨l, hi, inf, bm, bs, m, s, td, ti⟩ W h1 h2 IX IY)
      have HC2 := Lib.hid (fun W h1 h2 => pcompare_calls (.slice A n cap) (.slice A n cap) ⟨l, hi, inf, bm, bs, m, s, td, ti⟩ ⟨l, lo, inf, bm, bs, m, s, td, ti⟩ W h1 h2 IY IX)
      have HC3 := Lib.hid (fun W h1 h2 => psame_calls (.slice A n cap) (.slice A n cap) ⟨l, lo, inf, bm, bs, m, s, td, ti⟩ ⟨l, hi, inf, bm, bs, m, s, td, ti⟩ W h1 h2 IX IY)
      rw [HA.lt] at HC1
      rw [HA.gt] at HC2
      rw [HA.ne] at HC3
      dsimp only at HC1 HC2 HC3
      have K5 := Lib.hid (trans9 K2.out k4)
      rw [← hW4]
      clear hW4 k4 HA IX IY hv2 hv3 c3 x0 x1 x2 x3 x4 x5 x6 x7 x8 xf xlt y0 y1 y2 y3 y4 y5 y6 y7 y8 yf ylt hg1 hg2 K2 hm hk2 hw hne hne2
      have PX2 := PX
      have PY2 := PY
      obtain ⟨x0, x1, x2, x3, x4, x5, x6, x7, x8, xf, xlt⟩ := PX2
      obtain ⟨y0, y1, y2, y3, y4, y5, y6, y7, y8, yf, ylt⟩ := PY2
      dsimp only at x0 x1 x2 x3 x4 x5 x6 x7 x8 y0 y1 y2 y3 y4 y5 y6 y7 y8
      go_wp2_with fail
      refine (HC1.out _ hLX hLY).mono ?_; rintro e w5 ⟨rfl, b5⟩
      clear x0 x1 x2 x3 x4 x5 x6 x7 x8 xf xlt y0 y1 y2 y3 y4 y5 y6 y7 y8 yf ylt
      have K6 := Lib.hid (trans9 K5.out b5)
      replace PX := PX.below b5
      replace PY := PY.below b5
      replace hLX := hLX.below b5
      replace hLY := hLY.below b5
      clear b5
      have PX2 := PX
      have PY2 := PY
      obtain ⟨x0, x1, x2, x3, x4, x5, x6, x7, x8, xf, xlt⟩ := PX2
      obtain ⟨y0, y1, y2, y3, y4, y5, y6, y7, y8, yf, ylt⟩ := PY2
      dsimp only at x0 x1 x2 x3 x4 x5 x6 x7 x8 y0 y1 y2 y3 y4 y5 y6 y7 y8
      go_wp2_with fail
      refine (HC2.out _ hLY hLX).mono ?_; rintro e w6 ⟨rfl, b6⟩
      clear x0 x1 x2 x3 x4 x5 x6 x7 x8 xf xlt y0 y1 y2 y3 y4 y5 y6 y7 y8 yf ylt
      have K7 := Lib.hid (trans9 K6.out b6)
      replace PX := PX.below b6
      replace PY := PY.below b6
      replace hLX := hLX.below b6
      replace hLY := hLY.below b6
      clear b6
      have PX2 := PX
      have PY2 := PY
      obtain ⟨x0, x1, x2, x3, x4, x5, x6, x7, x8, xf, xlt⟩ := PX2
      obtain ⟨y0, y1, y2, y3, y4, y5, y6, y7, y8, yf, ylt⟩ := PY2
      dsimp only at x0 x1 x2 x3 x4 x5 x6 x7 x8 y0 y1 y2 y3 y4 y5 y6 y7 y8
      go_wp2_with fail
      refine (HC3.out _ hLX hLY).mono ?_; rintro e w7 ⟨rfl, b7⟩
      clear x0 x1 x2 x3 x4 x5 x6 x7 x8 xf xlt y0 y1 y2 y3 y4 y5 y6 y7 y8 yf ylt
      have K8 := Lib.hid (trans9 K7.out b7)
      replace PX := PX.below b7
      replace PY := PY.below b7
      replace hLX := hLX.below b7
      replace hLY := hLY.below b7
      clear b7
      go_wp2_with fail
      go_ret
      exact ⟨rfl, K8.out⟩
    · have hm : part.tmod 5 = 4 := by rw [ht]; exact hk
      have hk2 : part % 5 = 4 := hk
      have HA : Ahead ⟨l, ro, inf, lo, 0, m, s, td, ti⟩ ⟨l, ro, inf, hi, 0, m, s, td, ti⟩ := Ahead.of (orL_first (k := 5) (x := -1) (by omega) (fun i hi => by rcases (by omega : i = 0 ∨ i = 1 ∨ i = 2 ∨ i = 3 ∨ i = 4) with rfl | rfl | rfl | rfl | rfl <;> simp [cmpPL, cmpL_refl, ff_self, ord3_self, cmpO_self]) (by simp [cmpPL, (cmpO_int hlt (by omega) (by omega)).1])) (orL_first (k := 5) (x := 1) (by omega) (fun i hi => by rcases (by omega : i = 0 ∨ i = 1 ∨ i = 2 ∨ i = 3 ∨ i = 4) with rfl | rfl | rfl | rfl | rfl <;> simp [cmpPL, cmpL_refl, ff_self, ord3_self, cmpO_self]) (by simp [cmpPL, (cmpO_int hlt (by omega) (by omega)).2]))
      have IX : PtIn ⟨l, ro, inf, lo, 0, m, s, td, ti⟩ := ⟨by dsimp only; omega, by dsimp only; omega, hp.m1, hp.m2, hp.t1, hp.t2, hp.fit⟩
      have IY : PtIn ⟨l, ro, inf, hi, 0, m, s, td, ti⟩ := ⟨by dsimp only; omega, by dsimp only; omega, hp.m1, hp.m2, hp.t1, hp.t2, hp.fit⟩
      clear hk ht p0 p1 hlt hl1 hh1 hp
      obtain ⟨x0, x1, x2, x3, x4, x5, x6, x7, x8, xf, xlt⟩ := X1
      obtain ⟨y0, y1, y2, y3, y4, y5, y6, y7, y8, yf, ylt⟩ := X2
      dsimp only at x0 x1 x2 x3 x4 x5 x6 x7 x8 y0 y1 y2 y3 y4 y5 y6 y7 y8
      go_upto_region 17 with fail
      obtain ⟨W4, hW4⟩ : ∃ W4 : World, W4 = ((((wc.setCell ⟨g1, 3, none⟩ (.int .i64 lo)).setCell ⟨g1, 4, none⟩ (.int .i64 0)).setCell ⟨g2, 3, none⟩ (.int .i64 hi)).setCell ⟨g2, 4, none⟩ (.int .i64 0)) := ⟨_, rfl⟩
      have PX : PtAt W4 g1 (.slice A n cap) ⟨l, ro, inf, lo, 0, m, s, td, ti⟩ := by
        rw [hW4]
        refine ⟨?_, ?_, ?_, ?_, ?_, ?_, ?_, ?_, ?_, fun o => ?_, ?_⟩
        all_goals first | (go_simp; done) | (simp; omega) | (simp [World.setCell]; done) | (simp [World.setCell]; omega)
      have PY : PtAt W4 g2 (.slice A n cap) ⟨l, ro, inf, hi, 0, m, s, td, ti⟩ := by
        rw [hW4]
        refine ⟨?_, ?_, ?_, ?_, ?_, ?_, ?_, ?_, ?_, fun o => ?_, ?_⟩
        all_goals first | (go_simp; done) | (simp; omega) | (simp [World.setCell]; done) | (simp [World.setCell]; omega)
      have k4 : Below w2.heap.size w2 W4 := by
        rw [hW4]
        (repeat' first | assumption | exact Below.refl _ _ | apply kp_set | apply kp_alloc)
      have hLX := hv2.below k4
      have hLY := hLX
      have HC1 := Lib.hid (fun W h1 h2 => pcompare_calls (.slice A n cap) (.slice A n cap) ⟨l, ro, inf, lo, 0, m, s, td, ti⟩ ⟨l, ro, inf, hi, 0, m, s, td, ti⟩ W h1 h2 IX IY)
      have HC2 := Lib.hid (fun W h1 h2 => pcompare_calls (.slice A n cap) (.slice A n cap) ⟨l, ro, inf, hi, 0, m, s, td, ti⟩ ⟨l, ro, inf, lo, 0, m, s, td, ti⟩ W h1 h2 IY IX)
      have HC3 := Lib.hid (fun W h1 h2 => psame_calls (.slice A n cap) (.slice A n cap) ⟨l, ro, inf, lo, 0, m, s, td, ti⟩ ⟨l, ro, inf, hi, 0, m, s, td, ti⟩ W h1 h2 IX IY)
      rw [HA.lt] at HC1
      rw [HA.gt] at HC2
      rw [HA.ne] at HC3
      dsimp only at HC1 HC2 HC3
      have K5 := Lib.hid (trans9 K2.out k4)
      rw [← hW4]
      clear hW4 k4 HA IX IY hv2 hv3 c3 x0 x1 x2 x3 x4 x5 x6 x7 x8 xf xlt y0 y1 y2 y3 y4 y5 y6 y7 y8 yf ylt hg1 hg2 K2 hm hk2 hw hne hne2
      have PX2 := PX
      have PY2 := PY
      obtain ⟨x0, x1, x2, x3, x4, x5, x6, x7, x8, xf, xlt⟩ := PX2
      obtain ⟨y0, y1, y2, y3, y4, y5, y6, y7, y8, yf, ylt⟩ := PY2
      dsimp only at x0 x1 x2 x3 x4 x5 x6 x7 x8 y0 y1 y2 y3 y4 y5 y6 y7 y8
      go_wp2_with fail
      refine (HC1.out _ hLX hLY).mono ?_; rintro e w5 ⟨rfl, b5⟩
      clear x0 x1 x2 x3 x4 x5 x6 x7 x8 xf xlt y0 y1 y2 y3 y4 y5 y6 y7 y8 yf ylt
      have K6 := Lib.hid (trans9 K5.out b5)
      replace PX := PX.below b5
      replace PY := PY.below b5
      replace hLX := hLX.below b5
      replace hLY := hLY.below b5
      clear b5
      have PX2 := PX
      have PY2 := PY
      obtain ⟨x0, x1, x2, x3, x4, x5, x6, x7, x8, xf, xlt⟩ := PX2
      obtain ⟨y0, y1, y2, y3, y4, y5, y6, y7, y8, yf, ylt⟩ := PY2
      dsimp only at x0 x1 x2 x3 x4 x5 x6 x7 x8 y0 y1 y2 y3 y4 y5 y6 y7 y8
      go_wp2_with fail
      refine (HC2.out _ hLY hLX).mono ?_; rintro e w6 ⟨rfl, b6⟩
      clear x0 x1 x2 x3 x4 x5 x6 x7 x8 xf xlt y0 y1 y2 y3 y4 y5 y6 y7 y8 yf ylt
      have K7 := Lib.hid (trans9 K6.out b6)
      replace PX := PX.below b6
      replace PY := PY.below b6
      replace hLX := hLX.below b6
      replace hLY := hLY.below b6
      clear b6
      have PX2 := PX
      have PY2 := PY
      obtain ⟨x0, x1, x2, x3, x4, x5, x6, x7, x8, xf, xlt⟩ := PX2
      obtain ⟨y0, y1, y2, y3, y4, y5, y6, y7, y8, yf, ylt⟩ := PY2
      dsimp only at x0 x1 x2 x3 x4 x5 x6 x7 x8 y0 y1 y2 y3 y4 y5 y6 y7 y8
      go_wp2_with fail
      refine (HC3.out _ hLX hLY).mono ?_; rintro e w7 ⟨rfl, b7⟩
      clear x0 x1 x2 x3 x4 x5 x6 x7 x8 xf xlt y0 y1 y2 y3 y4 y5 y6 y7 y8 yf ylt
      have K8 := Lib.hid (trans9 K7.out b7)
      replace PX := PX.below b7
      replace PY := PY.below b7
      replace hLX := hLX.below b7
      replace hLY := hLY.below b7
      clear b7
      go_wp2_with fail
      go_ret
      exact ⟨rfl, K8.out⟩

end Go.Proofs.YtefgedflinoojaaDoor
