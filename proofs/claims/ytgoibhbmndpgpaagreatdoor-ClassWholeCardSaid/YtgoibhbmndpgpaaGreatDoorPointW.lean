/- The texts PointA, PointRow, PointB, PointC, one behind the other. -/
import Derived.Test.YtgoibhbmndpgpaaGreatDoorPlA
import Derived.Test.YtgoibhbmndpgpaaGreatDoorGrd
import Derived.Deep.RegionHeld3
import Derived.Deep.DrawnRows
import Derived.Deep.DeepCutAuto
import Derived.Test.YtgoibhbmndpgpaaGreatDoorUlW
import Derived.Test.YtgoibhbmndpgpaaGreatDoorDssW

/- The walks of cmp.Compare at numbers, cmp.Or at any, slices.Index and slices.Contains at numbers, falseFirst, Roles. -/
set_option maxRecDepth 100000
set_option linter.unusedVariables false
set_option linter.unusedSimpArgs false
namespace Go.Proofs.YtgoibhbmndpgpaaGreatDoor
open Go.RowKit Dc
attribute [local go_sem ↓] Go.wp_at_zero Go.wp_at_succ

/-- a slice of numbers -/
def NoRow (w : World) (v : Value) (l : List Int) : Prop :=
  ∃ A cap, v = .slice A l.length cap ∧ l.length ≤ cap ∧ cap ≤ maxLen ∧ (0 < l.length → ∃ b off, A = some ⟨b, off, none⟩ ∧ b < w.heap.size ∧ ∀ i x, l[i]? = some x → w.cell? ⟨b, off + i, none⟩ = some (.int .i64 x))
theorem NoRow.below {w w' : World} {v : Value} {l : List Int} (h : NoRow w v l) (hb : Below w.heap.size w w') : NoRow w' v l := by
  obtain ⟨A, cap, rfl, h1, h2, h3⟩ := h
  refine ⟨A, cap, rfl, h1, h2, fun h0 => ?_⟩
  obtain ⟨b, off, rfl, hlt, hc⟩ := h3 h0
  exact ⟨b, off, rfl, Nat.lt_of_lt_of_le hlt hb.size, fun i x hx => (hb.cell (p := ⟨b, off + i, none⟩) hlt).trans (hc i x hx)⟩
theorem NoRow.nil (w : World) : NoRow w (.slice none 0 0) [] := ⟨none, 0, rfl, Nat.le_refl _, by unfold maxLen; omega, fun h => absurd h (by simp)⟩
theorem NoRow.one {w : World} {b : Nat} (x : Int) (hb : b < w.heap.size) (h : w.cell? ⟨b, 0, none⟩ = some (.int .i64 x)) : NoRow w (.slice (some ⟨b, 0, none⟩) 1 1) [x] :=
  ⟨_, 1, rfl, Nat.le_refl _, by unfold maxLen; omega, fun _ => ⟨b, 0, rfl, hb, fun i y hy => by
    match i, hy with
    | 0, hy => obtain rfl : x = y := by simpa using hy
               exact h⟩⟩
theorem NoRow.three {w : World} {b : Nat} (x y z : Int) (hb : b < w.heap.size) (h0 : w.cell? ⟨b, 0, none⟩ = some (.int .i64 x)) (h1 : w.cell? ⟨b, 1, none⟩ = some (.int .i64 y)) (h2 : w.cell? ⟨b, 2, none⟩ = some (.int .i64 z)) :
    NoRow w (.slice (some ⟨b, 0, none⟩) 3 3) [x, y, z] :=
  ⟨_, 3, rfl, Nat.le_refl _, by unfold maxLen; omega, fun _ => ⟨b, 0, rfl, hb, fun i u hu => by
    match i, hu with
    | 0, hu => obtain rfl : x = u := by simpa using hu
               exact h0
    | 1, hu => obtain rfl : y = u := by simpa using hu
               exact h1
    | 2, hu => obtain rfl : z = u := by simpa using hu
               exact h2⟩⟩
theorem NoRow.six {w : World} {b : Nat} (x0 x1 x2 x3 x4 x5 : Int) (hb : b < w.heap.size) (h0 : w.cell? ⟨b, 0, none⟩ = some (.int .i64 x0)) (h1 : w.cell? ⟨b, 1, none⟩ = some (.int .i64 x1)) (h2 : w.cell? ⟨b, 2, none⟩ = some (.int .i64 x2))
    (h3 : w.cell? ⟨b, 3, none⟩ = some (.int .i64 x3)) (h4 : w.cell? ⟨b, 4, none⟩ = some (.int .i64 x4)) (h5 : w.cell? ⟨b, 5, none⟩ = some (.int .i64 x5)) :
    NoRow w (.slice (some ⟨b, 0, none⟩) 6 6) [x0, x1, x2, x3, x4, x5] :=
  ⟨_, 6, rfl, Nat.le_refl _, by unfold maxLen; omega, fun _ => ⟨b, 0, rfl, hb, fun i u hu => by
    match i, hu with
    | 0, hu => obtain rfl : x0 = u := by simpa using hu
               exact h0
    | 1, hu => obtain rfl : x1 = u := by simpa using hu
               exact h1
    | 2, hu => obtain rfl : x2 = u := by simpa using hu
               exact h2
    | 3, hu => obtain rfl : x3 = u := by simpa using hu
               exact h3
    | 4, hu => obtain rfl : x4 = u := by simpa using hu
               exact h4
    | 5, hu => obtain rfl : x5 = u := by simpa using hu
               exact h5⟩⟩
theorem no_get {l : List Int} {k : Nat} (h : k < l.length) : l[k]? = some (l.getD k 0) := by rw [List.getD_eq_getElem?_getD, List.getElem?_eq_getElem h]; rfl

set_option maxHeartbeats 1000000 in
theorem nan64_calls (x : Int) (w : World) : Calls Tryz.prog 125 #[.int .i64 x] w fun e w' => e = .returned (.bool false) ∧ w' = w := by
  go_enter Tryz.func125, Tryz.ntmps125
  go_wp2
  go_ret
  exact ⟨rfl, rfl⟩
set_option maxHeartbeats 1000000 in
theorem nan_calls (x : Int) (w : World) : Calls Tryz.prog 126 #[.int .i64 x] w fun e w' => e = .returned (.bool false) ∧ w' = w := by
  go_enter Tryz.func126, Tryz.ntmps126
  go_wp2
  go_ret
  exact ⟨rfl, rfl⟩
set_option maxHeartbeats 2000000 in
theorem cmp64_calls (x y : Int) (w : World) : Calls Tryz.prog 114 #[.int .i64 x, .int .i64 y] w fun e w' => e = .returned (.int .i64 (ord3 x y)) ∧ w' = w := by
  rcases ord3_cases x y with ⟨h, e⟩ | ⟨h, e⟩ | ⟨h, e⟩
  · have d1 : decide (x < y) = true := decide_eq_true h
    rw [e]
    go_enter Tryz.func114, Tryz.ntmps114
    go_wp2_with (first | (refine (nan64_calls _ _).mono ?_; rintro e w' ⟨rfl, rfl⟩))
    go_ret
    exact ⟨rfl, rfl⟩
  · have d1 : decide (x < y) = false := decide_eq_false (by omega)
    have d2 : decide (y < x) = true := decide_eq_true h
    rw [e]
    go_enter Tryz.func114, Tryz.ntmps114
    go_wp2_with (first | (refine (nan64_calls _ _).mono ?_; rintro e w' ⟨rfl, rfl⟩))
    go_ret
    exact ⟨rfl, rfl⟩
  · subst h
    have d1 : decide (x < x) = false := decide_eq_false (by omega)
    rw [e]
    go_enter Tryz.func114, Tryz.ntmps114
    go_wp2_with (first | (refine (nan64_calls _ _).mono ?_; rintro e w' ⟨rfl, rfl⟩))
    go_ret
    exact ⟨rfl, rfl⟩
set_option maxHeartbeats 2000000 in
theorem cmpi_calls (x y : Int) (w : World) : Calls Tryz.prog 115 #[.int .i64 x, .int .i64 y] w fun e w' => e = .returned (.int .i64 (ord3 x y)) ∧ w' = w := by
  rcases ord3_cases x y with ⟨h, e⟩ | ⟨h, e⟩ | ⟨h, e⟩
  · have d1 : decide (x < y) = true := decide_eq_true h
    rw [e]
    go_enter Tryz.func115, Tryz.ntmps115
    go_wp2_with (first | (refine (nan_calls _ _).mono ?_; rintro e w' ⟨rfl, rfl⟩))
    go_ret
    exact ⟨rfl, rfl⟩
  · have d1 : decide (x < y) = false := decide_eq_false (by omega)
    have d2 : decide (y < x) = true := decide_eq_true h
    rw [e]
    go_enter Tryz.func115, Tryz.ntmps115
    go_wp2_with (first | (refine (nan_calls _ _).mono ?_; rintro e w' ⟨rfl, rfl⟩))
    go_ret
    exact ⟨rfl, rfl⟩
  · subst h
    have d1 : decide (x < x) = false := decide_eq_false (by omega)
    rw [e]
    go_enter Tryz.func115, Tryz.ntmps115
    go_wp2_with (first | (refine (nan_calls _ _).mono ?_; rintro e w' ⟨rfl, rfl⟩))
    go_ret
    exact ⟨rfl, rfl⟩
set_option maxHeartbeats 1000000 in
theorem ff_calls (a b : Bool) (w : World) : Calls Tryz.prog 113 #[.bool a, .bool b] w fun e w' => e = .returned (.int .i64 (ffI a b)) ∧ w' = w := by
  cases a <;> cases b
  all_goals
    go_enter Tryz.func113, Tryz.ntmps113
    go_wp2
    go_ret
    exact ⟨rfl, rfl⟩

set_option maxHeartbeats 2000000 in
theorem orr_calls (l : List Int) (v : Value) (w : World) (hv : NoRow w v l) :
    Calls Tryz.prog 111 #[v] w fun e w' => e = .returned (.int .i64 (orL l)) ∧ w = w' := by
  obtain ⟨A, cap, rfl, hlc, hcm, hrow⟩ := hv
  unfold maxLen at hcm
  have HR := Lib.hid hrow
  clear hrow
  go_enter Tryz.func111, Tryz.ntmps111
  go_wp2_with fail
  go_loop [8] (fun v => ∃ k : Nat, k ≤ l.length ∧ v = .int .i64 (k : Nat) ∧ Hid (orL l = orL (l.drop k))) (fun v => l.length - (intOf v).toNat)
  case atStart => exact ⟨0, Nat.zero_le _, rfl, rfl⟩
  case round =>
    obtain ⟨k, hk, rfl, H⟩ := hrel
    by_cases hkl : k < l.length
    · obtain ⟨b, off, rfl, hbs, hc⟩ := HR.out (by omega)
      have c0 := hc k _ (no_get hkl)
      have hy := Lib.hid (fun h => orL_yes (no_get hkl) H.out h)
      have hn := Lib.hid (fun h => orL_no (no_get hkl) H.out h)
      generalize l.getD k 0 = x at *
      clear hc
      by_cases hx : x = 0
      · have dx : (x == 0) = true := by simpa using hx
        have hr := Lib.hid (hy.out hx)
        clear hx hy hn
        go_wp2
        go_round
        case rel => exact ⟨k + 1, hkl, by go_num, hr.out⟩
        case measure => simp [intOf]; omega
      · have dx : (x == 0) = false := by simpa using hx
        have hr := Lib.hid (hn.out hx)
        clear hx hy hn
        go_wp2
        go_ret
        exact ⟨by rw [hr.out]; rfl, rfl⟩
    · have hr := Lib.hid (orL_end (by omega) H.out)
      go_wp2
      go_ret
      exact ⟨by rw [hr.out]; rfl, rfl⟩

set_option maxHeartbeats 4000000 in
theorem iindex_calls (l : List Int) (v : Value) (x : Int) (w : World) (hv : NoRow w v l) :
    Calls Tryz.prog 50 #[v, .int .i64 x] w fun e w' => (∃ j : Int, e = .returned (.int .i64 j) ∧ decide (0 ≤ j) = memI l x) ∧ w = w' := by
  obtain ⟨A, cap, rfl, hlc, hcm, hrow⟩ := hv
  unfold maxLen at hcm
  have HR := Lib.hid hrow
  clear hrow
  go_enter Tryz.func50, Tryz.ntmps50
  go_wp2_with fail
  go_loop [8] (fun v => ∃ k : Nat, k ≤ l.length ∧ v = .int .i64 (k : Nat) ∧ Hid (memI l x = memI (l.drop k) x)) (fun v => l.length - (intOf v).toNat)
  case atStart => exact ⟨0, Nat.zero_le _, rfl, rfl⟩
  case round =>
    obtain ⟨k, hk, rfl, H⟩ := hrel
    by_cases hkl : k < l.length
    · obtain ⟨b, off, rfl, hbs, hc⟩ := HR.out (by omega)
      have c0 := hc k _ (no_get hkl)
      have hy := Lib.hid (fun h => memI_yes (no_get hkl) H.out h)
      have hn := Lib.hid (fun h => memI_no (no_get hkl) H.out h)
      generalize l.getD k 0 = y at *
      clear hc
      by_cases hx : y = x
      · have dx : (x == y) = true := by simpa using hx.symm
        have hr := Lib.hid (hy.out hx)
        clear hx hy hn
        go_wp2
        go_ret
        exact ⟨⟨_, rfl, by rw [hr.out]; simp⟩, rfl⟩
      · have dx : (x == y) = false := by simpa using fun e => hx (Eq.symm e)
        have hr := Lib.hid (hn.out hx)
        clear hx hy hn
        go_wp2
        go_round
        case rel => exact ⟨k + 1, hkl, by go_num, hr.out⟩
        case measure => simp [intOf]; omega
    · have hr := Lib.hid (memI_end (by omega) H.out)
      go_wp2
      go_ret
      exact ⟨⟨_, rfl, by rw [hr.out]; rfl⟩, rfl⟩
set_option maxHeartbeats 1000000 in
theorem icontains_calls (l : List Int) (v : Value) (x : Int) (w : World) (hv : NoRow w v l) :
    Calls Tryz.prog 32 #[v, .int .i64 x] w fun e w' => e = .returned (.bool (memI l x)) ∧ w = w' := by
  have hi := Lib.hid (iindex_calls l v x w hv)
  clear hv
  go_enter Tryz.func32, Tryz.ntmps32
  go_wp2_with fail
  refine hi.out.mono ?_
  rintro e w1 ⟨⟨j, rfl, hj⟩, rfl⟩
  go_wp2
  go_ret
  exact ⟨by first | rfl | (rw [← hj]; rfl) | simp, rfl⟩

set_option maxHeartbeats 4000000 in
theorem roles_calls (k : Int) (w : World) :
    Calls Tryz.prog 105 #[.int .i64 k] w fun e w' => (∃ v, e = .returned v ∧ NoRow w' v (rolesL k)) ∧ Below w.heap.size w w' := by
  have b0 := Below.refl w.heap.size w
  by_cases h0 : k = 0
  · subst h0
    go_enter Tryz.func105, Tryz.ntmps105
    go_wp2
    go_ret
    exact ⟨⟨_, rfl, NoRow.one 0 (by simp) (by simp)⟩, kp_alloc b0 _⟩
  by_cases h1 : k = 1
  · subst h1
    go_enter Tryz.func105, Tryz.ntmps105
    go_wp2
    go_ret
    exact ⟨⟨_, rfl, NoRow.one 0 (by simp) (by simp)⟩, kp_alloc b0 _⟩
  by_cases h2 : k = 2
  · subst h2
    go_enter Tryz.func105, Tryz.ntmps105
    go_wp2
    go_ret
    exact ⟨⟨_, rfl, NoRow.one 0 (by simp) (by simp)⟩, kp_alloc b0 _⟩
  by_cases h3 : k = 3
  · subst h3
    go_enter Tryz.func105, Tryz.ntmps105
    go_wp2
    go_ret
    exact ⟨⟨_, rfl, NoRow.three 1 3 4 (by simp) (by simp) (by simp) (by simp)⟩, kp_alloc b0 _⟩
  by_cases h4 : k = 4
  · subst h4
    go_enter Tryz.func105, Tryz.ntmps105
    go_wp2
    go_ret
    exact ⟨⟨_, rfl, NoRow.three 2 3 4 (by simp) (by simp) (by simp) (by simp)⟩, kp_alloc b0 _⟩
  have d0 : (k == 0) = false := by simpa using h0
  have d1 : (k == 1) = false := by simpa using h1
  have d2 : (k == 2) = false := by simpa using h2
  have d3 : (k == 3) = false := by simpa using h3
  have d4 : (k == 4) = false := by simpa using h4
  have hr := Lib.hid (show rolesL k = [] by unfold rolesL; simp [h0, h1, h2, h3, h4])
  clear h0 h1 h2 h3 h4
  go_enter Tryz.func105, Tryz.ntmps105
  go_wp2
  go_ret
  exact ⟨⟨_, rfl, by rw [hr.out]; exact NoRow.nil w⟩, b0⟩

end Go.Proofs.YtgoibhbmndpgpaaGreatDoor

/- A point as a value, in a block. -/
set_option maxRecDepth 100000
set_option linter.unusedVariables false
set_option linter.unusedSimpArgs false
namespace Go.Proofs.YtgoibhbmndpgpaaGreatDoor
open Go.RowKit Dc

/-- a point as a value; lv: the slice of its labels -/
abbrev ptv (lv : Value) (p : Pt) : Value := .agg #[lv, .int .i64 p.ro, .bool p.inf, .int .i64 p.bm, .int .i64 p.bs, .int .i64 p.m, .int .i64 p.s, .bool p.td, .int .i64 p.ti]
/-- its cells -/
abbrev ptc (lv : Value) (p : Pt) : Array Value := #[lv, .int .i64 p.ro, .bool p.inf, .int .i64 p.bm, .int .i64 p.bs, .int .i64 p.m, .int .i64 p.s, .bool p.td, .int .i64 p.ti]
/-- the numbers are in their bounds -/
structure PtIn (p : Pt) : Prop where
  bm1 : -9223372036854775808 ≤ p.bm
  bm2 : p.bm ≤ 9223372036854775807
  m1 : -9223372036854775808 ≤ p.m
  m2 : p.m ≤ 9223372036854775807
  t1 : -9223372036854775808 ≤ p.ti
  t2 : p.ti ≤ 9223372036854775807
  fit : Fit p.l
/-- a point lies in block b -/
structure PtAt (w : World) (b : Nat) (lv : Value) (p : Pt) : Prop where
  c0 : w.cell? ⟨b, 0, none⟩ = some lv
  c1 : w.cell? ⟨b, 1, none⟩ = some (.int .i64 p.ro)
  c2 : w.cell? ⟨b, 2, none⟩ = some (.bool p.inf)
  c3 : w.cell? ⟨b, 3, none⟩ = some (.int .i64 p.bm)
  c4 : w.cell? ⟨b, 4, none⟩ = some (.int .i64 p.bs)
  c5 : w.cell? ⟨b, 5, none⟩ = some (.int .i64 p.m)
  c6 : w.cell? ⟨b, 6, none⟩ = some (.int .i64 p.s)
  c7 : w.cell? ⟨b, 7, none⟩ = some (.bool p.td)
  c8 : w.cell? ⟨b, 8, none⟩ = some (.int .i64 p.ti)
  fr : ∀ o, w.frozen? ⟨b, o, none⟩ = false
  lt : b < w.heap.size
theorem PtAt.below {w w' : World} {b : Nat} {lv : Value} {p : Pt} (h : PtAt w b lv p) (hb : Below w.heap.size w w') : PtAt w' b lv p :=
  ⟨(hb.cell h.lt).trans h.c0, (hb.cell h.lt).trans h.c1, (hb.cell h.lt).trans h.c2, (hb.cell h.lt).trans h.c3, (hb.cell h.lt).trans h.c4, (hb.cell h.lt).trans h.c5, (hb.cell h.lt).trans h.c6, (hb.cell h.lt).trans h.c7, (hb.cell h.lt).trans h.c8,
    fun o => (hb.frozen (p := ⟨b, o, none⟩) h.lt).trans (h.fr o), Nat.lt_of_lt_of_le h.lt hb.size⟩
theorem PtAt.new (w : World) (lv : Value) (p : Pt) (t : TypeId) : PtAt (w.alloc (.cells (ptc lv p) t)) w.heap.size lv p :=
  ⟨by simp, by simp, by simp, by simp, by simp, by simp, by simp, by simp, by simp, fun o => by simp, by simp⟩
theorem PtAt.alloc {w : World} {b : Nat} {lv : Value} {p : Pt} (h : PtAt w b lv p) (o : Obj) : PtAt (w.alloc o) b lv p := h.below ((Below.refl _ _).alloc (Nat.le_refl _) o)
theorem PtAt.drew {w : World} {b : Nat} {lv : Value} {p : Pt} (h : PtAt w b lv p) : PtAt w.drew b lv p := ⟨h.c0, h.c1, h.c2, h.c3, h.c4, h.c5, h.c6, h.c7, h.c8, h.fr, h.lt⟩

end Go.Proofs.YtgoibhbmndpgpaaGreatDoor

/- The walks of package point's isNegative, isTime, hasBoundLabel, isValue, isBound. -/
set_option maxRecDepth 100000
set_option linter.unusedVariables false
set_option linter.unusedSimpArgs false
namespace Go.Proofs.YtgoibhbmndpgpaaGreatDoor
open Go.RowKit Dc
attribute [local go_sem ↓] Go.wp_at_zero Go.wp_at_succ

set_option maxHeartbeats 1000000 in
theorem isneg_calls (m s : Int) (w : World) (h1 : -9223372036854775808 ≤ m) (h2 : m ≤ 9223372036854775807) :
    Calls Tryz.prog 120 #[dv2 m s] w fun e w' => e = .returned (.bool (decide (cmpO m s 0 0 < 0))) ∧ Below w.heap.size w w' := by
  have hc := Lib.hid (fun W => compare_walk m s 0 0 W h1 h2 (by omega) (by omega))
  have kB := Lib.hid (kp_alloc (Below.refl w.heap.size w) (.cells #[.int .i64 m, .int .i64 s] 44))
  generalize cmpO m s 0 0 = r at *
  go_enter Tryz.func120, Tryz.ntmps120
  go_wp2_with fail
  refine (hc.out _).mono ?_; rintro e w1 ⟨rfl, b1⟩
  have k1 := trans9 kB.out b1
  go_wp2
  go_ret
  exact ⟨rfl, k1⟩

set_option maxHeartbeats 2000000 in
theorem ptime_calls (A : Option Addr) (n cap : Nat) (p : Pt) (w : World) (hp : Pl w) (hin : PtIn p) :
    Calls Tryz.prog 109 #[ptv (.slice A n cap) p] w fun e w' => e = .returned (.bool (timOk p)) ∧ Below w.heap.size w w' := by
  obtain ⟨pl, ro, inf, bm, bs, m, s, td, ti⟩ := p
  obtain ⟨hb1, hb2, hm1, hm2, ht1, ht2, hfit⟩ := hin
  dsimp only at hb1 hb2 hm1 hm2 ht1 ht2
  have kB := Lib.hid (kp_alloc (Below.refl w.heap.size w) (.cells #[.slice A n cap, .int .i64 ro, .bool inf, .int .i64 bm, .int .i64 bs, .int .i64 m, .int .i64 s, .bool td, .int .i64 ti] 46))
  have hP := hp.alloc (.cells #[.slice A n cap, .int .i64 ro, .bool inf, .int .i64 bm, .int .i64 bs, .int .i64 m, .int .i64 s, .bool td, .int .i64 ti] 46)
  have hm := ms_calls ti 1 _ hP ht1 ht2
  rw [ms_one ti ht1 ht2] at hm
  clear hb1 hb2 hm1 hm2 ht1 ht2 hfit hP hp
  cases td with
  | false =>
    have hr := Lib.hid (show timOk ⟨pl, ro, inf, bm, bs, m, s, false, ti⟩ = decide (ti = 0) by unfold timOk; rfl)
    rw [hr.out]
    clear hm
    by_cases h0 : ti = 0
    · have d : (ti == 0) = true := by simpa using h0
      rw [decide_eq_true h0]
      clear h0
      dsimp only [ptv]
      go_enter Tryz.func109, Tryz.ntmps109
      go_wp2
      go_ret
      exact ⟨rfl, kB.out⟩
    · have d : (ti == 0) = false := by simpa using h0
      rw [decide_eq_false h0]
      clear h0
      dsimp only [ptv]
      go_enter Tryz.func109, Tryz.ntmps109
      go_wp2
      go_ret
      exact ⟨rfl, kB.out⟩
  | true =>
    have hr := Lib.hid (show timOk ⟨pl, ro, inf, bm, bs, m, s, true, ti⟩ = isT ti by unfold timOk; rfl)
    rw [hr.out]
    clear hr
    generalize isT ti = T at *
    cases T with
    | true =>
      rw [if_pos rfl, show scaledV (some ti) = .tuple #[.int .i64 ti, .bool true] from rfl] at hm
      have hm2 := Lib.hid hm
      clear hm
      dsimp only [ptv]
      go_enter Tryz.func109, Tryz.ntmps109
      go_wp2_with fail
      refine hm2.out.mono ?_; rintro e w1 ⟨rfl, b1⟩
      have k1 := trans9 kB.out b1
      go_wp2
      go_ret
      exact ⟨rfl, k1⟩
    | false =>
      rw [if_neg (by simp), show scaledV none = .tuple #[.int .i64 0, .bool false] from rfl] at hm
      have hm2 := Lib.hid hm
      clear hm
      dsimp only [ptv]
      go_enter Tryz.func109, Tryz.ntmps109
      go_wp2_with fail
      refine hm2.out.mono ?_; rintro e w1 ⟨rfl, b1⟩
      have k1 := trans9 kB.out b1
      go_wp2
      go_ret
      exact ⟨rfl, k1⟩

set_option maxHeartbeats 2000000 in
theorem haslab_calls (lv : Value) (p : Pt) (w : World) (hv : LbRow w lv p.l) :
    Calls Tryz.prog 110 #[ptv lv p] w fun e w' => e = .returned (.bool (hasB p)) ∧ Below w.heap.size w w' := by
  obtain ⟨pl, ro, inf, bm, bs, m, s, td, ti⟩ := p
  dsimp only at hv
  have kB := Lib.hid (kp_alloc (Below.refl w.heap.size w) (.cells #[lv, .int .i64 ro, .bool inf, .int .i64 bm, .int .i64 bs, .int .i64 m, .int .i64 s, .bool td, .int .i64 ti] 46))
  have h1 := get_calls pl lv leB _ (hv.below kB.out)
  have h2 := get_calls pl lv quB _ (hv.below kB.out)
  rw [show str leB = ⟨#[108, 101]⟩ from rfl] at h1
  rw [show str quB = ⟨#[113, 117, 97, 110, 116, 105, 108, 101]⟩ from rfl] at h2
  obtain ⟨A, cap, rfl, _⟩ := hv
  generalize pl.length = nl at *
  by_cases r1 : ro = 1
  · subst r1
    have hr := Lib.hid (show hasB ⟨pl, 1, inf, bm, bs, m, s, td, ti⟩ = (getL pl leB).2 from rfl)
    rw [hr.out]
    generalize (getL pl leB).1 = x1 at *
    generalize (getL pl leB).2 = x2 at *
    have H1 := Lib.hid h1
    clear h1 h2
    dsimp only [ptv]
    go_enter Tryz.func110, Tryz.ntmps110
    go_wp2_with fail
    refine H1.out.mono ?_; rintro e w1 ⟨rfl, b1⟩
    have k1 := trans9 kB.out b1
    go_wp2
    go_ret
    exact ⟨rfl, k1⟩
  · have d1 : (ro == 1) = false := by simpa using r1
    by_cases r2 : ro = 2
    · subst r2
      have hr := Lib.hid (show hasB ⟨pl, 2, inf, bm, bs, m, s, td, ti⟩ = (getL pl quB).2 from rfl)
      rw [hr.out]
      generalize (getL pl quB).1 = x1 at *
      generalize (getL pl quB).2 = x2 at *
      have H2 := Lib.hid h2
      clear h1 h2 r1 d1
      dsimp only [ptv]
      go_enter Tryz.func110, Tryz.ntmps110
      go_wp2_with fail
      refine H2.out.mono ?_; rintro e w1 ⟨rfl, b1⟩
      have k1 := trans9 kB.out b1
      go_wp2
      go_ret
      exact ⟨rfl, k1⟩
    · have d2 : (ro == 2) = false := by simpa using r2
      have hr := Lib.hid (show hasB ⟨pl, ro, inf, bm, bs, m, s, td, ti⟩ = false by unfold hasB; simp only; rw [if_neg r1, if_neg r2])
      rw [hr.out]
      clear h1 h2 r1 r2
      dsimp only [ptv]
      go_enter Tryz.func110, Tryz.ntmps110
      go_wp2
      go_ret
      exact ⟨rfl, kB.out⟩

theorem cnt_k (r : Int) : cntOf 2 r = true := rfl
theorem cnt_r (k : Int) : cntOf k 1 = true := by unfold cntOf; simp
theorem cnt_c (k : Int) : cntOf k 3 = true := by unfold cntOf; simp
theorem cnt_no {k r : Int} (h : ¬ k = 2) (h1 : ¬ r = 1) (h3 : ¬ r = 3) : cntOf k r = false := by unfold cntOf; simp [h, h1, h3]
set_option maxHeartbeats 4000000 in
theorem isvalue_calls (k : Int) (A : Option Addr) (n cap : Nat) (p : Pt) (w : World) (hin : PtIn p) :
    Calls Tryz.prog 108 #[.int .i64 k, ptv (.slice A n cap) p] w fun e w' => e = .returned (.bool (valOk k p)) ∧ Below w.heap.size w w' := by
  obtain ⟨pl, ro, inf, bm, bs, m, s, td, ti⟩ := p
  obtain ⟨hb1, hb2, hm1, hm2, ht1, ht2, hfit⟩ := hin
  dsimp only at hb1 hb2 hm1 hm2 ht1 ht2
  have hg := Lib.hid (fun W => good_calls m s W)
  have hn := Lib.hid (fun W => isneg_calls m s W hm1 hm2)
  clear hb1 hb2 hm1 hm2 ht1 ht2 hfit
  have hv : valOk k ⟨pl, ro, inf, bm, bs, m, s, td, ti⟩ = (goodD m s && !(cntOf k ro && decide (cmpO m s 0 0 < 0))) := rfl
  rw [hv]
  clear hv
  generalize goodD m s = G at *
  generalize decide (cmpO m s 0 0 < 0) = N at *
  have kB := Lib.hid (kp_alloc (Below.refl w.heap.size w) (.cells #[.slice A n cap, .int .i64 ro, .bool inf, .int .i64 bm, .int .i64 bs, .int .i64 m, .int .i64 s, .bool td, .int .i64 ti] 46))
  by_cases h2 : k = 2
  · subst h2
    rw [cnt_k]
    cases G with
    | false =>
      dsimp only [ptv]
      go_enter Tryz.func108, Tryz.ntmps108
      go_wp2_with fail
      refine (hg.out _).mono ?_; rintro e w1 ⟨rfl, b1⟩
      have k1 := trans9 kB.out b1
      obtain ⟨q1, r1⟩ := bcell b1
      have x1 : w.heap.size < w1.heap.size := Nat.lt_of_lt_of_le (by simp) b1.size
      clear b1
      have K1 := Lib.hid k1
      clear k1
      go_wp2
      go_ret
      exact ⟨rfl, K1.out⟩
    | true =>
      dsimp only [ptv]
      go_enter Tryz.func108, Tryz.ntmps108
      go_wp2_with fail
      refine (hg.out _).mono ?_; rintro e w1 ⟨rfl, b1⟩
      have k1 := trans9 kB.out b1
      obtain ⟨q1, r1⟩ := bcell b1
      have x1 : w.heap.size < w1.heap.size := Nat.lt_of_lt_of_le (by simp) b1.size
      clear b1
      have K1 := Lib.hid k1
      clear k1
      go_wp2_with fail
      refine (hn.out _).mono ?_; rintro e w2 ⟨rfl, b2⟩
      have k2 := trans9 K1.out b2
      obtain ⟨q2, r2⟩ := bcell b2
      have x2 : w.heap.size < w2.heap.size := Nat.lt_of_lt_of_le x1 b2.size
      clear b2
      have K2 := Lib.hid k2
      clear k2
      go_wp2
      go_ret
      exact ⟨by cases N <;> rfl, K2.out⟩
  have d2 : (k == 2) = false := by simpa using h2
  by_cases h1 : ro = 1
  · subst h1
    rw [cnt_r]
    clear h2
    cases G with
    | false =>
      dsimp only [ptv]
      go_enter Tryz.func108, Tryz.ntmps108
      go_wp2_with fail
      refine (hg.out _).mono ?_; rintro e w1 ⟨rfl, b1⟩
      have k1 := trans9 kB.out b1
      obtain ⟨q1, r1⟩ := bcell b1
      have x1 : w.heap.size < w1.heap.size := Nat.lt_of_lt_of_le (by simp) b1.size
      clear b1
      have K1 := Lib.hid k1
      clear k1
      go_wp2
      go_ret
      exact ⟨rfl, K1.out⟩
    | true =>
      dsimp only [ptv]
      go_enter Tryz.func108, Tryz.ntmps108
      go_wp2_with fail
      refine (hg.out _).mono ?_; rintro e w1 ⟨rfl, b1⟩
      have k1 := trans9 kB.out b1
      obtain ⟨q1, r1⟩ := bcell b1
      have x1 : w.heap.size < w1.heap.size := Nat.lt_of_lt_of_le (by simp) b1.size
      clear b1
      have K1 := Lib.hid k1
      clear k1
      go_wp2_with fail
      refine (hn.out _).mono ?_; rintro e w2 ⟨rfl, b2⟩
      have k2 := trans9 K1.out b2
      obtain ⟨q2, r2⟩ := bcell b2
      have x2 : w.heap.size < w2.heap.size := Nat.lt_of_lt_of_le x1 b2.size
      clear b2
      have K2 := Lib.hid k2
      clear k2
      go_wp2
      go_ret
      exact ⟨by cases N <;> rfl, K2.out⟩
  have d1 : (ro == 1) = false := by simpa using h1
  by_cases h3 : ro = 3
  · subst h3
    rw [cnt_c]
    clear h2 h1
    cases G with
    | false =>
      dsimp only [ptv]
      go_enter Tryz.func108, Tryz.ntmps108
      go_wp2_with fail
      refine (hg.out _).mono ?_; rintro e w1 ⟨rfl, b1⟩
      have k1 := trans9 kB.out b1
      obtain ⟨q1, r1⟩ := bcell b1
      have x1 : w.heap.size < w1.heap.size := Nat.lt_of_lt_of_le (by simp) b1.size
      clear b1
      have K1 := Lib.hid k1
      clear k1
      go_wp2
      go_ret
      exact ⟨rfl, K1.out⟩
    | true =>
      dsimp only [ptv]
      go_enter Tryz.func108, Tryz.ntmps108
      go_wp2_with fail
      refine (hg.out _).mono ?_; rintro e w1 ⟨rfl, b1⟩
      have k1 := trans9 kB.out b1
      obtain ⟨q1, r1⟩ := bcell b1
      have x1 : w.heap.size < w1.heap.size := Nat.lt_of_lt_of_le (by simp) b1.size
      clear b1
      have K1 := Lib.hid k1
      clear k1
      go_wp2_with fail
      refine (hn.out _).mono ?_; rintro e w2 ⟨rfl, b2⟩
      have k2 := trans9 K1.out b2
      obtain ⟨q2, r2⟩ := bcell b2
      have x2 : w.heap.size < w2.heap.size := Nat.lt_of_lt_of_le x1 b2.size
      clear b2
      have K2 := Lib.hid k2
      clear k2
      go_wp2
      go_ret
      exact ⟨by cases N <;> rfl, K2.out⟩
  have d3 : (ro == 3) = false := by simpa using h3
  rw [cnt_no h2 h1 h3]
  clear h2 h1 h3
  cases G with
  | false =>
    dsimp only [ptv]
    go_enter Tryz.func108, Tryz.ntmps108
    go_wp2_with fail
    refine (hg.out _).mono ?_; rintro e w1 ⟨rfl, b1⟩
    have k1 := trans9 kB.out b1
    obtain ⟨q1, r1⟩ := bcell b1
    have x1 : w.heap.size < w1.heap.size := Nat.lt_of_lt_of_le (by simp) b1.size
    clear b1
    have K1 := Lib.hid k1
    clear k1
    go_wp2
    go_ret
    exact ⟨rfl, K1.out⟩
  | true =>
    dsimp only [ptv]
    go_enter Tryz.func108, Tryz.ntmps108
    go_wp2_with fail
    refine (hg.out _).mono ?_; rintro e w1 ⟨rfl, b1⟩
    have k1 := trans9 kB.out b1
    obtain ⟨q1, r1⟩ := bcell b1
    have x1 : w.heap.size < w1.heap.size := Nat.lt_of_lt_of_le (by simp) b1.size
    clear b1
    have K1 := Lib.hid k1
    clear k1
    go_wp2
    go_ret
    exact ⟨rfl, K1.out⟩

set_option maxHeartbeats 4000000 in
theorem isbound_calls (A : Option Addr) (n cap : Nat) (p : Pt) (w : World) (hin : PtIn p) :
    Calls Tryz.prog 107 #[ptv (.slice A n cap) p] w fun e w' => e = .returned (.bool (bndOk p)) ∧ Below w.heap.size w w' := by
  obtain ⟨pl, ro, inf, bm, bs, m, s, td, ti⟩ := p
  obtain ⟨hb1, hb2, hm1, hm2, ht1, ht2, hfit⟩ := hin
  dsimp only at hb1 hb2 hm1 hm2 ht1 ht2
  have hg := Lib.hid (fun W => good_calls bm bs W)
  have hn := Lib.hid (fun W => isneg_calls bm bs W hb1 hb2)
  have hc := Lib.hid (fun W => compare_walk bm bs 1 0 W hb1 hb2 (by omega) (by omega))
  clear hb1 hb2 hm1 hm2 ht1 ht2 hfit
  have kB := Lib.hid (kp_alloc (Below.refl w.heap.size w) (.cells #[.slice A n cap, .int .i64 ro, .bool inf, .int .i64 bm, .int .i64 bs, .int .i64 m, .int .i64 s, .bool td, .int .i64 ti] 46))
  by_cases h1 : ro = 1
  · subst h1
    cases inf with
    | false =>
      rw [show bndOk ⟨pl, 1, false, bm, bs, m, s, td, ti⟩ = goodD bm bs from rfl]
      generalize goodD bm bs = G at *
      dsimp only [ptv]
      go_enter Tryz.func107, Tryz.ntmps107
      go_wp2_with fail
      refine (hg.out _).mono ?_; rintro e w1 ⟨rfl, b1⟩
      have k1 := trans9 kB.out b1
      obtain ⟨q1, r1⟩ := bcell b1
      have x1 : w.heap.size < w1.heap.size := Nat.lt_of_lt_of_le (by simp) b1.size
      clear b1
      have K1 := Lib.hid k1
      clear k1
      go_wp2
      go_ret
      exact ⟨rfl, K1.out⟩
    | true =>
      rw [show bndOk ⟨pl, 1, true, bm, bs, m, s, td, ti⟩ = decide (bm = 0 ∧ bs = 0) from rfl]
      have he := fun W => eql_dec bm bs 0 0 W
      generalize decide (bm = 0 ∧ bs = 0) = E at *
      clear hg hn hc
      dsimp only [ptv]
      go_enter Tryz.func107, Tryz.ntmps107
      go_wp2
      go_ret
      exact ⟨rfl, kB.out⟩
  have d1 : (ro == 1) = false := by simpa using h1
  by_cases h2 : ro = 2
  · subst h2
    rw [show bndOk ⟨pl, 2, inf, bm, bs, m, s, td, ti⟩ = (goodD bm bs && !decide (cmpO bm bs 0 0 < 0) && decide (cmpO bm bs 1 0 ≤ 0)) from rfl]
    generalize goodD bm bs = G at *
    generalize decide (cmpO bm bs 0 0 < 0) = N at *
    generalize cmpO bm bs 1 0 = r at *
    clear h1
    cases G with
    | false =>
      dsimp only [ptv]
      go_enter Tryz.func107, Tryz.ntmps107
      go_wp2_with fail
      refine (hg.out _).mono ?_; rintro e w1 ⟨rfl, b1⟩
      have k1 := trans9 kB.out b1
      obtain ⟨q1, r1⟩ := bcell b1
      have x1 : w.heap.size < w1.heap.size := Nat.lt_of_lt_of_le (by simp) b1.size
      clear b1
      have K1 := Lib.hid k1
      clear k1
      go_wp2
      go_ret
      exact ⟨rfl, K1.out⟩
    | true =>
      cases N with
      | true =>
        dsimp only [ptv]
        go_enter Tryz.func107, Tryz.ntmps107
        go_wp2_with fail
        refine (hg.out _).mono ?_; rintro e w1 ⟨rfl, b1⟩
        have k1 := trans9 kB.out b1
        obtain ⟨q1, r1⟩ := bcell b1
        have x1 : w.heap.size < w1.heap.size := Nat.lt_of_lt_of_le (by simp) b1.size
        clear b1
        have K1 := Lib.hid k1
        clear k1
        go_wp2_with fail
        refine (hn.out _).mono ?_; rintro e w2 ⟨rfl, b2⟩
        have k2 := trans9 K1.out b2
        obtain ⟨q2, r2⟩ := bcell b2
        have x2 : w.heap.size < w2.heap.size := Nat.lt_of_lt_of_le x1 b2.size
        clear b2
        have K2 := Lib.hid k2
        clear k2
        go_wp2
        go_ret
        exact ⟨rfl, K2.out⟩
      | false =>
        dsimp only [ptv]
        go_enter Tryz.func107, Tryz.ntmps107
        go_wp2_with fail
        refine (hg.out _).mono ?_; rintro e w1 ⟨rfl, b1⟩
        have k1 := trans9 kB.out b1
        obtain ⟨q1, r1⟩ := bcell b1
        have x1 : w.heap.size < w1.heap.size := Nat.lt_of_lt_of_le (by simp) b1.size
        clear b1
        have K1 := Lib.hid k1
        clear k1
        go_wp2_with fail
        refine (hn.out _).mono ?_; rintro e w2 ⟨rfl, b2⟩
        have k2 := trans9 K1.out b2
        obtain ⟨q2, r2⟩ := bcell b2
        have x2 : w.heap.size < w2.heap.size := Nat.lt_of_lt_of_le x1 b2.size
        clear b2
        have K2 := Lib.hid k2
        clear k2
        go_wp2_with fail
        refine (hc.out _).mono ?_; rintro e w3 ⟨rfl, b3⟩
        have k3 := trans9 K2.out b3
        obtain ⟨q3, r3⟩ := bcell b3
        have x3 : w.heap.size < w3.heap.size := Nat.lt_of_lt_of_le x2 b3.size
        clear b3
        have K3 := Lib.hid k3
        clear k3
        go_wp2
        go_ret
        exact ⟨by simp, K3.out⟩
  have d2 : (ro == 2) = false := by simpa using h2
  rw [show bndOk ⟨pl, ro, inf, bm, bs, m, s, td, ti⟩ = decide (bm = 0 ∧ bs = 0) by unfold bndOk; simp only; rw [if_neg (fun e => h1 e.1), if_neg h2]]
  have he := fun W => eql_dec bm bs 0 0 W
  generalize decide (bm = 0 ∧ bs = 0) = E at *
  clear hg hn hc h1 h2
  dsimp only [ptv]
  go_enter Tryz.func107, Tryz.ntmps107
  go_wp2
  go_ret
  exact ⟨rfl, kB.out⟩

end Go.Proofs.YtgoibhbmndpgpaaGreatDoor

/- The walks of package point's Compare, Same. -/
set_option maxRecDepth 100000
set_option linter.unusedVariables false
set_option linter.unusedSimpArgs false
namespace Go.Proofs.YtgoibhbmndpgpaaGreatDoor
open Go.RowKit Dc
attribute [local go_sem ↓] Go.wp_at_zero Go.wp_at_succ

set_option maxHeartbeats 8000000 in
theorem pcompare_calls (v u : Value) (p q : Pt) (w : World) (hv : LbRow w v p.l) (hu : LbRow w u q.l) (hp : PtIn p) (hq : PtIn q) :
    Calls Tryz.prog 93 #[ptv v p, ptv u q] w fun e w' => e = .returned (.int .i64 (cmpP p q)) ∧ Below w.heap.size w w' := by
  obtain ⟨pl, ro, inf, bm, bs, m, s, td, ti⟩ := p
  obtain ⟨ql, ro2, inf2, bm2, bs2, m2, s2, td2, ti2⟩ := q
  have HCs := Lib.hid (fun W => compare_walk bm bs bm2 bs2 W hp.bm1 hp.bm2 hq.bm1 hq.bm2)
  have HF1 := Lib.hid (fun W => ff_calls td td2 W)
  have HF2 := Lib.hid (fun W => ff_calls inf inf2 W)
  have HT := Lib.hid (fun W => cmp64_calls ti ti2 W)
  have HR := Lib.hid (fun W => cmpi_calls ro ro2 W)
  have hb0 : Below w.heap.size w ((w.alloc (.cells #[v, .int .i64 ro, .bool inf, .int .i64 bm, .int .i64 bs, .int .i64 m, .int .i64 s, .bool td, .int .i64 ti] 46)).alloc (.cells #[u, .int .i64 ro2, .bool inf2, .int .i64 bm2, .int .i64 bs2, .int .i64 m2, .int .i64 s2, .bool td2, .int .i64 ti2] 46)) :=
    kp_alloc (kp_alloc (Below.refl _ _) _) _
  dsimp only at hv hu
  have hv1 := hv.below hb0
  have hu1 := hu.below hb0
  rw [show cmpP ⟨pl, ro, inf, bm, bs, m, s, td, ti⟩ ⟨ql, ro2, inf2, bm2, bs2, m2, s2, td2, ti2⟩ = orL [cmpL pl ql, ffI td td2, ord3 ti ti2, ord3 ro ro2, ffI inf inf2, cmpO bm bs bm2 bs2] from rfl]
  generalize cmpO bm bs bm2 bs2 = r5 at *
  generalize ffI td td2 = r1 at *
  generalize ffI inf inf2 = r4 at *
  generalize ord3 ti ti2 = r2 at *
  generalize ord3 ro ro2 = r3 at *
  obtain ⟨r0, hr0⟩ : ∃ r0, r0 = cmpL pl ql := ⟨_, rfl⟩
  rw [← hr0]
  obtain ⟨r, hr⟩ : ∃ r, r = orL [r0, r1, r2, r3, r4, r5] := ⟨_, rfl⟩
  rw [← hr]
  dsimp only [ptv]
  obtain ⟨A, cap, rfl, _⟩ := hv
  obtain ⟨A2, cap2, rfl, _⟩ := hu
  generalize pl.length = n at *
  generalize ql.length = n2 at *
  go_enter Tryz.func93, Tryz.ntmps93
  go_upto_region 1 with fail
  obtain ⟨W1, hW1⟩ : ∃ W1 : World, W1 = (w.alloc (.cells #[.slice A n cap, .int .i64 ro, .bool inf, .int .i64 bm, .int .i64 bs, .int .i64 m, .int .i64 s, .bool td, .int .i64 ti] 46)).alloc (.cells #[.slice A2 n2 cap2, .int .i64 ro2, .bool inf2, .int .i64 bm2, .int .i64 bs2, .int .i64 m2, .int .i64 s2, .bool td2, .int .i64 ti2] 46) := ⟨_, rfl⟩
  have P1 : PtAt W1 w.heap.size (.slice A n cap) ⟨pl, ro, inf, bm, bs, m, s, td, ti⟩ := by rw [hW1]; exact (PtAt.new w _ ⟨pl, ro, inf, bm, bs, m, s, td, ti⟩ _).alloc _
  have P2 : PtAt W1 (w.heap.size + 1) (.slice A2 n2 cap2) ⟨ql, ro2, inf2, bm2, bs2, m2, s2, td2, ti2⟩ := by
    rw [hW1]
    have h := PtAt.new (w.alloc (.cells #[.slice A n cap, .int .i64 ro, .bool inf, .int .i64 bm, .int .i64 bs, .int .i64 m, .int .i64 s, .bool td, .int .i64 ti] 46)) (.slice A2 n2 cap2) ⟨ql, ro2, inf2, bm2, bs2, m2, s2, td2, ti2⟩ 46
    rw [show (w.alloc (.cells #[.slice A n cap, .int .i64 ro, .bool inf, .int .i64 bm, .int .i64 bs, .int .i64 m, .int .i64 s, .bool td, .int .i64 ti] 46)).heap.size = w.heap.size + 1 by simp] at h
    exact h
  rw [← hW1] at hb0 hv1 hu1 ⊢
  clear hW1
  have HL := Lib.hid (fun X (hX : Below W1.heap.size W1 X) => lcompare_calls pl ql _ _ X (hv1.below hX) (hu1.below hX))
  rw [← hr0] at HL
  have HO := Lib.hid (fun X b h0 h1 h2 h3 h4 h5 h6 => orr_calls [r0, r1, r2, r3, r4, r5] _ X (NoRow.six (w := X) (b := b) r0 r1 r2 r3 r4 r5 h0 h1 h2 h3 h4 h5 h6))
  rw [← hr] at HO
  clear hr hr0
  have a0 : ∀ z, Below W1.heap.size W1 z → z.cell? ⟨w.heap.size, 0, none⟩ = some (.slice A n cap) := fun z hz => (P1.below hz).c0
  have a1 : ∀ z, Below W1.heap.size W1 z → z.cell? ⟨w.heap.size, 1, none⟩ = some (.int .i64 ro) := fun z hz => (P1.below hz).c1
  have a2 : ∀ z, Below W1.heap.size W1 z → z.cell? ⟨w.heap.size, 2, none⟩ = some (.bool inf) := fun z hz => (P1.below hz).c2
  have a3 : ∀ z, Below W1.heap.size W1 z → z.cell? ⟨w.heap.size, 3, none⟩ = some (.int .i64 bm) := fun z hz => (P1.below hz).c3
  have a4 : ∀ z, Below W1.heap.size W1 z → z.cell? ⟨w.heap.size, 4, none⟩ = some (.int .i64 bs) := fun z hz => (P1.below hz).c4
  have a7 : ∀ z, Below W1.heap.size W1 z → z.cell? ⟨w.heap.size, 7, none⟩ = some (.bool td) := fun z hz => (P1.below hz).c7
  have a8 : ∀ z, Below W1.heap.size W1 z → z.cell? ⟨w.heap.size, 8, none⟩ = some (.int .i64 ti) := fun z hz => (P1.below hz).c8
  have e0 : ∀ z, Below W1.heap.size W1 z → z.cell? ⟨w.heap.size + 1, 0, none⟩ = some (.slice A2 n2 cap2) := fun z hz => (P2.below hz).c0
  have e1 : ∀ z, Below W1.heap.size W1 z → z.cell? ⟨w.heap.size + 1, 1, none⟩ = some (.int .i64 ro2) := fun z hz => (P2.below hz).c1
  have e2 : ∀ z, Below W1.heap.size W1 z → z.cell? ⟨w.heap.size + 1, 2, none⟩ = some (.bool inf2) := fun z hz => (P2.below hz).c2
  have e3 : ∀ z, Below W1.heap.size W1 z → z.cell? ⟨w.heap.size + 1, 3, none⟩ = some (.int .i64 bm2) := fun z hz => (P2.below hz).c3
  have e4 : ∀ z, Below W1.heap.size W1 z → z.cell? ⟨w.heap.size + 1, 4, none⟩ = some (.int .i64 bs2) := fun z hz => (P2.below hz).c4
  have e7 : ∀ z, Below W1.heap.size W1 z → z.cell? ⟨w.heap.size + 1, 7, none⟩ = some (.bool td2) := fun z hz => (P2.below hz).c7
  have e8 : ∀ z, Below W1.heap.size W1 z → z.cell? ⟨w.heap.size + 1, 8, none⟩ = some (.int .i64 ti2) := fun z hz => (P2.below hz).c8
  have HB := Lib.hid hb0
  clear hb0 hv1 hu1 P1 P2 hp hq
  go_region_held3 (fun z => Below W1.heap.size W1 z)
    (((repeat' first | assumption | exact Below.refl _ _ | exact Nat.le_refl _ | apply kp_alloc | apply kp_set | apply Below.drew | omega); done))
    ((first
      | (go_at_call 112; refine (HL.out _ (by (repeat' first | assumption | exact Below.refl _ _ | apply kp_alloc | apply Below.drew))).mono ?_; rintro e w3 ⟨rfl, b3⟩; have k3 : Below W1.heap.size W1 w3 := (by refine trans9 ?_ b3; (repeat' first | assumption | exact Below.refl _ _ | exact Nat.le_refl _ | apply kp_alloc | apply kp_set | apply Below.drew | omega)))
      | (go_at_call_of 113 (Value.bool td); refine (HF1.out _).mono ?_; rintro e w4 ⟨rfl, rfl⟩)
      | (go_at_call_of 113 (Value.bool inf); refine (HF2.out _).mono ?_; rintro e w5 ⟨rfl, rfl⟩)
      | (go_at_call 114; refine (HT.out _).mono ?_; rintro e w6 ⟨rfl, rfl⟩)
      | (go_at_call 115; refine (HR.out _).mono ?_; rintro e w7 ⟨rfl, rfl⟩)
      | (go_at_call 54; refine (HCs.out _).mono ?_; rintro e w8 ⟨rfl, b8⟩; have k8 : Below W1.heap.size W1 w8 := (by refine trans9 ?_ b8; (repeat' first | assumption | exact Below.refl _ _ | exact Nat.le_refl _ | apply kp_alloc | apply kp_set | apply Below.drew | omega)))
      | (go_at_call 111; refine (HO.out _ _ (by simp) (by simp) (by simp) (by simp) (by simp) (by simp) (by simp)).mono ?_; rintro e w9 ⟨rfl, rfl⟩)))
  all_goals
    go_wp2_with fail
    go_ret
    refine ⟨rfl, trans9 HB.out ?_⟩
    (repeat' first | assumption | exact Below.refl _ _ | exact Nat.le_refl _ | apply kp_alloc | apply kp_set | apply Below.drew | omega)

end Go.Proofs.YtgoibhbmndpgpaaGreatDoor
