/- The texts MrgA, MrgB, MrgC, MrgD, one behind the other. -/
import Derived.Test.YtjeefgamkoeiaaaGreatDoorBatP
import Derived.Test.YtjeefgamkoeiaaaGreatDoorLabelW
import Derived.Test.YtjeefgamkoeiaaaGreatDoorMrgP
import Derived.Deep.RegionHeld3
import Derived.Deep.DrawnRows
import Derived.Deep.DeepCutAuto
import Derived.Test.YtjeefgamkoeiaaaGreatDoorPointW
import Derived.BigQuiet
import Derived.Test.YtjeefgamkoeiaaaGreatDoorFamG
import Derived.Test.YtjeefgamkoeiaaaGreatDoorFamD

/- The walk of cmp.Or at two texts. -/
set_option maxRecDepth 100000
set_option linter.unusedVariables false
set_option linter.unusedSimpArgs false
namespace Go.Proofs.YtjeefgamkoeiaaaGreatDoor
open Go.RowKit Go.Sort Dc
attribute [local go_sem ↓] Go.wp_at_zero Go.wp_at_succ

theorem orS_no {x y : List UInt8} (h : x ≠ []) : orS x y = x := if_neg h
theorem orS_yes {x y : List UInt8} (h : x = []) : orS x y = y := if_pos h
theorem emp_no {x : List UInt8} (h : x ≠ []) : x.isEmpty = false := by
  cases x with
  | nil => exact absurd rfl h
  | cons _ _ => rfl
set_option maxHeartbeats 2000000 in
theorem ors_calls (b : Nat) (x y : List UInt8) (w : World) (hb : b < w.heap.size) (h0 : w.cell? ⟨b, 0, none⟩ = some (.string (str x))) (h1 : w.cell? ⟨b, 1, none⟩ = some (.string (str y))) :
    Calls Tryz.prog 31 #[.slice (some ⟨b, 0, none⟩) 2 2] w fun e w' => e = .returned (.string (str (orS x y))) ∧ w = w' := by
  go_enter Tryz.func31, Tryz.ntmps31
  go_wp2_with fail
  go_loop [8] (fun v => ∃ k : Nat, k ≤ 2 ∧ v = .int .i64 (k : Nat) ∧ Hid (1 ≤ k → x = []) ∧ Hid (2 ≤ k → y = [])) (fun v => 2 - (intOf v).toNat)
  case atStart => exact ⟨0, by omega, rfl, fun h => absurd h (by omega), fun h => absurd h (by omega)⟩
  case round =>
    obtain ⟨k, hk, rfl, H1, H2⟩ := hrel
    rcases (by omega : k = 0 ∨ k = 1 ∨ k = 2) with rfl | rfl | rfl
    · by_cases hx : x = []
      · have dx : x.isEmpty = true := by rw [hx]; rfl
        have hX := Lib.hid hx
        clear hx
        rw [show ((0 : Nat) : Int) = 0 from rfl]
        go_wp2
        go_round
        case rel => exact ⟨1, by omega, by go_num, fun _ => hX.out, fun h => absurd h (by omega)⟩
        case measure => simp [intOf]
      · have dx : x.isEmpty = false := emp_no hx
        have hr := Lib.hid (orS_no (y := y) hx)
        clear hx
        rw [show ((0 : Nat) : Int) = 0 from rfl]
        go_wp2
        go_ret
        exact ⟨by rw [hr.out]; rfl, rfl⟩
    · by_cases hy : y = []
      · have dy : y.isEmpty = true := by rw [hy]; rfl
        have hY := Lib.hid hy
        clear hy
        rw [show ((1 : Nat) : Int) = 1 from rfl]
        go_wp2
        go_round
        case rel => exact ⟨2, by omega, by go_num, fun _ => H1.out (by omega), fun _ => hY.out⟩
        case measure => simp [intOf]
      · have dy : y.isEmpty = false := emp_no hy
        have hr := Lib.hid (orS_yes (y := y) (H1.out (by omega)))
        clear hy
        rw [show ((1 : Nat) : Int) = 1 from rfl]
        go_wp2
        go_ret
        exact ⟨by rw [hr.out]; rfl, rfl⟩
    · have hr := Lib.hid (show orS x y = [] by rw [orS_yes (H1.out (by omega)), H2.out (by omega)])
      rw [show ((2 : Nat) : Int) = 2 from rfl]
      go_wp2
      go_ret
      exact ⟨by rw [hr.out]; rfl, rfl⟩

end Go.Proofs.YtjeefgamkoeiaaaGreatDoor

/- The walks of slices.BinarySearchFunc at points, at families; of package merge's byName. -/
set_option maxRecDepth 100000
set_option linter.unusedVariables false
set_option linter.unusedSimpArgs false
namespace Go.Proofs.YtjeefgamkoeiaaaGreatDoor
open Go.RowKit Go.Sort Dc
attribute [local go_sem ↓] Go.wp_at_zero Go.wp_at_succ

/-- what a search in a rising row hands back -/
def BsP {α : Type} (f : α → α → Int) (l : List α) (y : α) (e : Ending) : Prop :=
  ∃ (i : Nat) (b : Bool), e = .returned (.tuple #[.int .i64 (i : Nat), .bool b]) ∧ i ≤ l.length ∧ (∀ j x, j < i → l[j]? = some x → f x y < 0) ∧ (∀ j x, i ≤ j → l[j]? = some x → 0 ≤ f x y) ∧ (b = true ↔ ∃ x, l[i]? = some x ∧ f x y = 0)
section
variable {α : Type} {f : α → α → Int}
theorem bs_lo (hf : TP f) {l : List α} (hs : StrictT f l) {m : Nat} {x y : α} (hx : l[m]? = some x) (h : f x y < 0) : ∀ j z, j < m + 1 → l[j]? = some z → f z y < 0 := fun j z hj hz => by
  obtain ⟨hm, rfl⟩ := List.getElem?_eq_some_iff.1 hx
  obtain ⟨hj2, rfl⟩ := List.getElem?_eq_some_iff.1 hz
  by_cases e : j = m
  · subst e; exact h
  · exact hf.lt (List.pairwise_iff_getElem.1 hs j m hj2 hm (by omega)) (Int.le_of_lt h)
theorem bs_hi (hf : TP f) {l : List α} (hs : StrictT f l) {m : Nat} {x y : α} (hx : l[m]? = some x) (h : 0 ≤ f x y) : ∀ j z, m ≤ j → l[j]? = some z → 0 ≤ f z y := fun j z hj hz => by
  obtain ⟨hm, rfl⟩ := List.getElem?_eq_some_iff.1 hx
  obtain ⟨hj2, rfl⟩ := List.getElem?_eq_some_iff.1 hz
  by_cases e : j = m
  · subst e; exact h
  · have h1 := List.pairwise_iff_getElem.1 hs m j hm hj2 (by omega)
    have h2 := hf.le y _ _ (by rw [hf.neg]; omega) (Int.le_of_lt h1)
    rw [hf.neg] at h2; omega
theorem bs_yes {l : List α} {i : Nat} {x y : α} (hx : l[i]? = some x) : (f x y = 0 → ∃ x, l[i]? = some x ∧ f x y = 0) ∧ (f x y ≠ 0 → ¬ ∃ x, l[i]? = some x ∧ f x y = 0) :=
  ⟨fun h => ⟨x, hx, h⟩, fun h ⟨z, hz, k⟩ => by rw [hx] at hz; obtain rfl := Option.some.inj hz; exact absurd k h⟩
theorem bs_end {l : List α} {i : Nat} {y : α} (h : l.length ≤ i) : false = true ↔ ∃ x, l[i]? = some x ∧ f x y = 0 :=
  ⟨fun k => (by cases k), fun ⟨z, hz, k⟩ => by rw [List.getElem?_eq_none h] at hz; cases hz⟩
end

set_option maxHeartbeats 1000000 in
theorem mbyname_calls (x y : Fs) (w : World) :
    Calls Tryz.prog 41 #[famv x.hd x.v, famv y.hd y.v] w fun e w' => e = .returned (.int .i64 (cb x.hd.n y.hd.n)) ∧ Below w.heap.size w w' := by
  have hc := fun W => strcmp_calls x.hd.n y.hd.n W
  have hk := Lib.hid (kp_alloc (kp_alloc (Below.refl w.heap.size w) (.cells (famc x.hd x.v) 41)) (.cells (famc y.hd y.v) 41))
  generalize cb x.hd.n y.hd.n = r at *
  obtain ⟨⟨n, k, u, h⟩, v, _⟩ := x
  obtain ⟨⟨n2, k2, u2, h2⟩, v2, _⟩ := y
  go_enter Tryz.func41, Tryz.ntmps41
  go_wp2_with (go_at_call 67; refine (hc _).mono ?_; rintro e w' ⟨rfl, rfl⟩)
  go_ret
  exact ⟨rfl, hk.out⟩

set_option maxHeartbeats 8000000 in
theorem pbs_calls (L : List Ps) (v : Value) (y : Ps) (w : World) (hv : PtRow w v L) (hy : PsIn w y) (hn : L.length ≤ 1000) (hs : StrictT cmpP (pts L)) :
    Calls Tryz.prog 55 #[v, ptv y.1 y.2, .func (.func 56) #[] #[]] w fun e w' => BsP cmpP (pts L) y.2 e ∧ Below w.heap.size w w' := by
  have HP := Lib.hid hv.2
  obtain ⟨A, cap, rfl, hlc, hcm, hnil, hrow⟩ := hv.1
  unfold maxLen at hcm
  have HR := Lib.hid hrow
  have hl1 : (pts L).length = L.length := by simp [pts]
  have HL1 := Lib.hid hl1
  have HS := Lib.hid hs
  clear hrow hnil hv hl1 hs
  have HK0 := Lib.hid (kp_alloc (Below.refl w.heap.size w) (.cells (ptc y.1 y.2) 53))
  have HY := Lib.hid hy
  have hya := PtAt.new w y.1 y.2 53
  obtain ⟨A2, n2, cap2, hy1⟩ : ∃ A1 n1 cap1, y.1 = .slice A1 n1 cap1 := by obtain ⟨_, _, h, _⟩ := hy.1; exact ⟨_, _, _, h⟩
  clear hy
  generalize hyy : y.2 = yp at *
  obtain ⟨yv, yp'⟩ := y
  simp only at hy1 hyy
  subst hy1 hyy
  have HPL := Lib.hid (fun (p : Pt) (m : Nat) (h : (pts L)[m]? = some p) (hC : cmpP p yp' < 0) => bs_lo tp_cmpP HS.out h hC)
  have HPH := Lib.hid (fun (p : Pt) (m : Nat) (h : (pts L)[m]? = some p) (hC : 0 ≤ cmpP p yp') => bs_hi tp_cmpP HS.out h hC)
  have HCP := Lib.hid (fun (x : Ps) (hx : PsIn w x) W (hW : Below w.heap.size w W) => pcompare_calls x.1 (.slice A2 n2 cap2) x.2 yp' W (hx.1.below hW) (HY.out.1.below hW) hx.2 HY.out.2)
  obtain ⟨ql, ro2, inf2, bm2, bs2, m2, s2, td2, ti2⟩ := yp'
  obtain ⟨e0, e1, e2, e3, e4, e5, e6, e7, e8, _, hlt0⟩ := hya
  clear HY
  simp only at e0 e1 e2 e3 e4 e5 e6 e7 e8
  obtain ⟨W1, hW1⟩ : ∃ W, W = w.alloc (.cells #[.slice A2 n2 cap2, .int .i64 ro2, .bool inf2, .int .i64 bm2, .int .i64 bs2, .int .i64 m2, .int .i64 s2, .bool td2, .int .i64 ti2] 53) := ⟨_, rfl⟩
  have HB0 : Hid (Below w.heap.size w W1) := Lib.hid (by rw [hW1]; exact HK0.out)
  have hz : w.heap.size < W1.heap.size := by rw [hW1]; exact hlt0
  have t0 : ∀ z, Below W1.heap.size W1 z → z.cell? ⟨w.heap.size, 0, none⟩ = some _ := fun z hz2 => (hz2.cell (p := ⟨w.heap.size, 0, none⟩) hz).trans (by rw [hW1]; exact e0)
  have t1 : ∀ z, Below W1.heap.size W1 z → z.cell? ⟨w.heap.size, 1, none⟩ = some _ := fun z hz2 => (hz2.cell (p := ⟨w.heap.size, 1, none⟩) hz).trans (by rw [hW1]; exact e1)
  have t2 : ∀ z, Below W1.heap.size W1 z → z.cell? ⟨w.heap.size, 2, none⟩ = some _ := fun z hz2 => (hz2.cell (p := ⟨w.heap.size, 2, none⟩) hz).trans (by rw [hW1]; exact e2)
  have t3 : ∀ z, Below W1.heap.size W1 z → z.cell? ⟨w.heap.size, 3, none⟩ = some _ := fun z hz2 => (hz2.cell (p := ⟨w.heap.size, 3, none⟩) hz).trans (by rw [hW1]; exact e3)
  have t4 : ∀ z, Below W1.heap.size W1 z → z.cell? ⟨w.heap.size, 4, none⟩ = some _ := fun z hz2 => (hz2.cell (p := ⟨w.heap.size, 4, none⟩) hz).trans (by rw [hW1]; exact e4)
  have t5 : ∀ z, Below W1.heap.size W1 z → z.cell? ⟨w.heap.size, 5, none⟩ = some _ := fun z hz2 => (hz2.cell (p := ⟨w.heap.size, 5, none⟩) hz).trans (by rw [hW1]; exact e5)
  have t6 : ∀ z, Below W1.heap.size W1 z → z.cell? ⟨w.heap.size, 6, none⟩ = some _ := fun z hz2 => (hz2.cell (p := ⟨w.heap.size, 6, none⟩) hz).trans (by rw [hW1]; exact e6)
  have t7 : ∀ z, Below W1.heap.size W1 z → z.cell? ⟨w.heap.size, 7, none⟩ = some _ := fun z hz2 => (hz2.cell (p := ⟨w.heap.size, 7, none⟩) hz).trans (by rw [hW1]; exact e7)
  have t8 : ∀ z, Below W1.heap.size W1 z → z.cell? ⟨w.heap.size, 8, none⟩ = some _ := fun z hz2 => (hz2.cell (p := ⟨w.heap.size, 8, none⟩) hz).trans (by rw [hW1]; exact e8)
  clear e0 e1 e2 e3 e4 e5 e6 e7 e8 HK0 hlt0
  go_enter Tryz.func55, Tryz.ntmps55
  go_wp2_with fail
  rw [← hW1]
  clear hW1
  go_loopw [9, 10] (fun s9 s10 wr => ∃ lo hi : Nat, s9 = .int .i64 (lo : Nat) ∧ s10 = .int .i64 (hi : Nat) ∧ lo ≤ hi ∧ hi ≤ L.length ∧ Hid (∀ j x, j < lo → (pts L)[j]? = some x → cmpP x ⟨ql, ro2, inf2, bm2, bs2, m2, s2, td2, ti2⟩ < 0) ∧ Hid (∀ j x, hi ≤ j → (pts L)[j]? = some x → 0 ≤ cmpP x ⟨ql, ro2, inf2, bm2, bs2, m2, s2, td2, ti2⟩) ∧ Below W1.heap.size W1 wr) (fun s9 s10 _ => (intOf s10).toNat - (intOf s9).toNat)
  case atStart => exact ⟨0, L.length, rfl, rfl, Nat.zero_le _, Nat.le_refl _, fun j x h => absurd h (by omega), fun j x h hx => by have := (List.getElem?_eq_some_iff.1 hx).1; rw [HL1.out] at this; omega, Below.refl _ _⟩
  case round =>
    obtain ⟨lo, hi, rfl, rfl, hlh, hhi, HLO, HHI, hb⟩ := hrel
    by_cases hlt : lo < hi
    · obtain ⟨b, off, rfl, hbs, hc⟩ := HR.out (by omega)
      obtain ⟨x, hx, hxp⟩ := ps_get (show (lo + hi) / 2 < L.length by omega)
      have hix := HP.out x (List.mem_of_getElem? hx)
      obtain ⟨c0, c1, c2, c3, c4, c5, c6, c7, c8⟩ := pr_cells hc hx
      have hcp := Lib.hid (fun W (hW : Below W1.heap.size W1 W) => HCP.out x hix W (trans9 HB0.out hW))
      have hpl := Lib.hid (HPL.out _ _ hxp)
      have hph := Lib.hid (HPH.out _ _ hxp)
      have hyes := Lib.hid (bs_yes (f := cmpP) (l := pts L) (y := ⟨ql, ro2, inf2, bm2, bs2, m2, s2, td2, ti2⟩) hxp)
      obtain ⟨A1, n1, cap1, hx1⟩ : ∃ A1 n1 cap1, x.1 = .slice A1 n1 cap1 := by obtain ⟨_, _, h, _⟩ := hix.1; exact ⟨_, _, _, h⟩
      obtain ⟨xv, p⟩ := x
      simp only at hx1
      subst hx1
      obtain ⟨pl, ro, inf, bm, bs, m, s, td, ti⟩ := p
      have hR : ∀ o u, w.cell? ⟨b, o, none⟩ = some u → ∀ z, Below W1.heap.size W1 z → z.cell? ⟨b, o, none⟩ = some u := fun o u hu z hz2 => ((trans9 HB0.out hz2).cell (p := ⟨b, o, none⟩) hbs).trans hu
      simp only at c0 c1 c2 c3 c4 c5 c6 c7 c8 hpl hph hcp hyes
      have r0 := hR _ _ c0
      have r1 := hR _ _ c1
      have r2 := hR _ _ c2
      have r3 := hR _ _ c3
      have r4 := hR _ _ c4
      have r5 := hR _ _ c5
      have r6 := hR _ _ c6
      have r7 := hR _ _ c7
      have r8 := hR _ _ c8
      have HB := Lib.hid hb
      clear hc c0 c1 c2 c3 c4 c5 c6 c7 c8 hR hx hxp hix hbs
      generalize cmpP _ _ = C at hpl hph hcp hyes
      have hd1 : decide ((lo : Int) < (hi : Int)) = true := decide_eq_true (by omega)
      have hmi : ((lo : Int) + (hi : Int)) / 2 = (((lo + hi) / 2 : Nat) : Int) := by omega
      generalize hm' : (lo + hi) / 2 = m' at *
      have hm1 : m' < L.length := by omega
      have hm2 : m' < hi := by omega
      have hm3 : lo ≤ m' := by omega
      have hm4 : (0 : Int) ≤ (m' : Int) := by omega
      have hm5 : (m' : Int) < (L.length : Int) := by omega
      clear hm' hyes
      by_cases hC : C < 0
      · have dC : decide (C < (0 : Int)) = true := decide_eq_true hC
        have hr := Lib.hid (hpl.out hC)
        clear hpl hph hC
        go_wp2_with fail
        go_region_held3 (fun z => Below W1.heap.size W1 z)
          (((repeat' first | assumption | exact Below.refl _ _ | exact Nat.le_refl _ | apply kp_alloc | apply kp_set | apply Below.drew | omega); done))
          ((first
            | (go_at_call 56; refine (hcp.out _ (by (repeat' first | assumption | apply Below.drew))).mono ?_; rintro e w3 ⟨rfl, b3⟩; have k3 : Below W1.heap.size W1 w3 := (by refine trans9 ?_ b3; (repeat' first | assumption | exact Below.refl _ _ | exact Nat.le_refl _ | apply kp_alloc | apply kp_set | apply Below.drew | omega)))))
        all_goals
          go_wp2_with fail
          go_roundw
          case rel => exact ⟨m' + 1, hi, by go_num, rfl, by omega, hhi, hr.out, HHI.out, k3⟩
          case measure => simp [intOf]; omega
      · have dC : decide (C < (0 : Int)) = false := decide_eq_false hC
        have hr := Lib.hid (hph.out (by omega))
        clear hpl hph hC
        go_wp2_with fail
        go_region_held3 (fun z => Below W1.heap.size W1 z)
          (((repeat' first | assumption | exact Below.refl _ _ | exact Nat.le_refl _ | apply kp_alloc | apply kp_set | apply Below.drew | omega); done))
          ((first
            | (go_at_call 56; refine (hcp.out _ (by (repeat' first | assumption | apply Below.drew))).mono ?_; rintro e w3 ⟨rfl, b3⟩; have k3 : Below W1.heap.size W1 w3 := (by refine trans9 ?_ b3; (repeat' first | assumption | exact Below.refl _ _ | exact Nat.le_refl _ | apply kp_alloc | apply kp_set | apply Below.drew | omega)))))
        all_goals
          go_wp2_with fail
          go_roundw
          case rel => exact ⟨lo, m', rfl, rfl, by omega, by omega, HLO.out, hr.out, k3⟩
          case measure => simp [intOf]; omega
    · obtain rfl : lo = hi := by omega
      have hd1 : decide ((lo : Int) < (lo : Int)) = false := decide_eq_false (by omega)
      by_cases hll : lo < L.length
      · obtain ⟨b, off, rfl, hbs, hc⟩ := HR.out (by omega)
        obtain ⟨x, hx, hxp⟩ := ps_get (show lo < L.length by omega)
        have hix := HP.out x (List.mem_of_getElem? hx)
        obtain ⟨c0, c1, c2, c3, c4, c5, c6, c7, c8⟩ := pr_cells hc hx
        have hcp := Lib.hid (fun W (hW : Below W1.heap.size W1 W) => HCP.out x hix W (trans9 HB0.out hW))
        have hpl := Lib.hid (HPL.out _ _ hxp)
        have hph := Lib.hid (HPH.out _ _ hxp)
        have hyes := Lib.hid (bs_yes (f := cmpP) (l := pts L) (y := ⟨ql, ro2, inf2, bm2, bs2, m2, s2, td2, ti2⟩) hxp)
        obtain ⟨A1, n1, cap1, hx1⟩ : ∃ A1 n1 cap1, x.1 = .slice A1 n1 cap1 := by obtain ⟨_, _, h, _⟩ := hix.1; exact ⟨_, _, _, h⟩
        obtain ⟨xv, p⟩ := x
        simp only at hx1
        subst hx1
        obtain ⟨pl, ro, inf, bm, bs, m, s, td, ti⟩ := p
        have hR : ∀ o u, w.cell? ⟨b, o, none⟩ = some u → ∀ z, Below W1.heap.size W1 z → z.cell? ⟨b, o, none⟩ = some u := fun o u hu z hz2 => ((trans9 HB0.out hz2).cell (p := ⟨b, o, none⟩) hbs).trans hu
        simp only at c0 c1 c2 c3 c4 c5 c6 c7 c8 hpl hph hcp hyes
        have r0 := hR _ _ c0
        have r1 := hR _ _ c1
        have r2 := hR _ _ c2
        have r3 := hR _ _ c3
        have r4 := hR _ _ c4
        have r5 := hR _ _ c5
        have r6 := hR _ _ c6
        have r7 := hR _ _ c7
        have r8 := hR _ _ c8
        have HB := Lib.hid hb
        clear hc c0 c1 c2 c3 c4 c5 c6 c7 c8 hR hx hxp hix hbs
        generalize cmpP _ _ = C at hpl hph hcp hyes
        have hd2 : decide ((lo : Int) < (L.length : Int)) = true := decide_eq_true (by omega)
        have hl5 : (lo : Int) < (L.length : Int) := by omega
        have hl6 : (0 : Int) ≤ (lo : Int) := by omega
        clear hpl hph
        by_cases hC : C = 0
        · have dC : (C == (0 : Int)) = true := by simpa using hC
          have hr := Lib.hid (hyes.out.1 hC)
          clear hyes hC
          go_wp2_with fail
          go_region_held3 (fun z => Below W1.heap.size W1 z)
            (((repeat' first | assumption | exact Below.refl _ _ | exact Nat.le_refl _ | apply kp_alloc | apply kp_set | apply Below.drew | omega); done))
            ((first
              | (go_at_call 56; refine (hcp.out _ (by (repeat' first | assumption | apply Below.drew))).mono ?_; rintro e w3 ⟨rfl, b3⟩; have k3 : Below W1.heap.size W1 w3 := (by refine trans9 ?_ b3; (repeat' first | assumption | exact Below.refl _ _ | exact Nat.le_refl _ | apply kp_alloc | apply kp_set | apply Below.drew | omega)))))
          all_goals
            go_wp2_with fail
            go_ret2
            exact ⟨⟨lo, true, rfl, by rw [HL1.out]; omega, HLO.out, HHI.out, ⟨fun _ => hr.out, fun _ => rfl⟩⟩, trans9 HB0.out k3⟩
        · have dC : (C == (0 : Int)) = false := by simpa using hC
          have hr := Lib.hid (hyes.out.2 hC)
          clear hyes hC
          go_wp2_with fail
          go_region_held3 (fun z => Below W1.heap.size W1 z)
            (((repeat' first | assumption | exact Below.refl _ _ | exact Nat.le_refl _ | apply kp_alloc | apply kp_set | apply Below.drew | omega); done))
            ((first
              | (go_at_call 56; refine (hcp.out _ (by (repeat' first | assumption | apply Below.drew))).mono ?_; rintro e w3 ⟨rfl, b3⟩; have k3 : Below W1.heap.size W1 w3 := (by refine trans9 ?_ b3; (repeat' first | assumption | exact Below.refl _ _ | exact Nat.le_refl _ | apply kp_alloc | apply kp_set | apply Below.drew | omega)))))
          all_goals
            go_wp2_with fail
            go_ret2
            exact ⟨⟨lo, false, rfl, by rw [HL1.out]; omega, HLO.out, HHI.out, ⟨fun z => absurd z (by decide), fun z => absurd z hr.out⟩⟩, trans9 HB0.out k3⟩
      · have hd2 : decide ((lo : Int) < (L.length : Int)) = false := decide_eq_false (by omega)
        have hr := Lib.hid (bs_end (f := cmpP) (l := pts L) (y := ⟨ql, ro2, inf2, bm2, bs2, m2, s2, td2, ti2⟩) (i := lo) (by rw [HL1.out]; omega))
        go_wp2_with fail
        go_quiet (fail)
        go_wp2_with fail
        go_ret2
        exact ⟨⟨lo, false, rfl, by rw [HL1.out]; omega, HLO.out, HHI.out, hr.out⟩, trans9 HB0.out (by first | exact hb | exact below_drewN hb _)⟩

set_option maxHeartbeats 8000000 in
theorem fbs_calls (L : List Fs) (v : Value) (y : Fs) (w : World) (hv : FmRow w v L) (hy : FsIn w y) (hn : L.length ≤ 1000) (hs : StrictT cmpF (fms L)) :
    Calls Tryz.prog 40 #[v, famv y.hd y.v, .func (.func 41) #[] #[]] w fun e w' => BsP cmpF (fms L) (fm y) e ∧ Below w.heap.size w w' := by
  have HP := Lib.hid hv.2
  obtain ⟨A, cap, rfl, hlc, hcm, hnil, hrow⟩ := hv.1
  unfold maxLen at hcm
  have HR := Lib.hid hrow
  have hl1 : (fms L).length = L.length := by simp [fms]
  have HL1 := Lib.hid hl1
  have HS := Lib.hid hs
  clear hrow hnil hv hl1 hs
  have HK0 := Lib.hid (kp_alloc (Below.refl w.heap.size w) (.cells (famc y.hd y.v) 41))
  have HY := Lib.hid hy
  have hya := FamAt.new w y.hd y.v 41
  have hy1 := pt_one hy.1
  clear hy
  have HPL := Lib.hid (fun (p : Fp) (m : Nat) (h : (fms L)[m]? = some p) (hC : cmpF p (fm y) < 0) => bs_lo tp_cmpF HS.out h hC)
  have HPH := Lib.hid (fun (p : Fp) (m : Nat) (h : (fms L)[m]? = some p) (hC : 0 ≤ cmpF p (fm y)) => bs_hi tp_cmpF HS.out h hC)
  have HCP := Lib.hid (fun (x : Fs) (hx : FsIn w x) W (hW : Below w.heap.size w W) => mbyname_calls x y W)
  obtain ⟨A2, n2, cap2, hy2⟩ : ∃ A1 n1 cap1, y.v = .slice A1 n1 cap1 := by obtain ⟨_, _, h, _⟩ := HY.out.1.1; exact ⟨_, _, _, h⟩
  clear HY
  obtain ⟨⟨yn, yk, yu, yh⟩, yv, yL⟩ := y
  simp only at hy2
  subst hy2
  obtain ⟨e0, e1, e2, e3, e4, _, hlt0⟩ := hya
  clear hy1
  simp only at e0 e1 e2 e3 e4
  obtain ⟨W1, hW1⟩ : ∃ W, W = w.alloc (.cells #[.string (str yn), .int .i64 yk, .string (str yu), .string (str yh), .slice A2 n2 cap2] 41) := ⟨_, rfl⟩
  have HB0 : Hid (Below w.heap.size w W1) := Lib.hid (by rw [hW1]; exact HK0.out)
  have hz : w.heap.size < W1.heap.size := by rw [hW1]; exact hlt0
  have t0 : ∀ z, Below W1.heap.size W1 z → z.cell? ⟨w.heap.size, 0, none⟩ = some _ := fun z hz2 => (hz2.cell (p := ⟨w.heap.size, 0, none⟩) hz).trans (by rw [hW1]; exact e0)
  have t1 : ∀ z, Below W1.heap.size W1 z → z.cell? ⟨w.heap.size, 1, none⟩ = some _ := fun z hz2 => (hz2.cell (p := ⟨w.heap.size, 1, none⟩) hz).trans (by rw [hW1]; exact e1)
  have t2 : ∀ z, Below W1.heap.size W1 z → z.cell? ⟨w.heap.size, 2, none⟩ = some _ := fun z hz2 => (hz2.cell (p := ⟨w.heap.size, 2, none⟩) hz).trans (by rw [hW1]; exact e2)
  have t3 : ∀ z, Below W1.heap.size W1 z → z.cell? ⟨w.heap.size, 3, none⟩ = some _ := fun z hz2 => (hz2.cell (p := ⟨w.heap.size, 3, none⟩) hz).trans (by rw [hW1]; exact e3)
  have t4 : ∀ z, Below W1.heap.size W1 z → z.cell? ⟨w.heap.size, 4, none⟩ = some _ := fun z hz2 => (hz2.cell (p := ⟨w.heap.size, 4, none⟩) hz).trans (by rw [hW1]; exact e4)
  clear e0 e1 e2 e3 e4 HK0 hlt0
  go_enter Tryz.func40, Tryz.ntmps40
  go_wp2_with fail
  rw [← hW1]
  clear hW1
  go_loopw [9, 10] (fun s9 s10 wr => ∃ lo hi : Nat, s9 = .int .i64 (lo : Nat) ∧ s10 = .int .i64 (hi : Nat) ∧ lo ≤ hi ∧ hi ≤ L.length ∧ Hid (∀ j x, j < lo → (fms L)[j]? = some x → cmpF x (fm ⟨⟨yn, yk, yu, yh⟩, .slice A2 n2 cap2, yL⟩) < 0) ∧ Hid (∀ j x, hi ≤ j → (fms L)[j]? = some x → 0 ≤ cmpF x (fm ⟨⟨yn, yk, yu, yh⟩, .slice A2 n2 cap2, yL⟩)) ∧ Below W1.heap.size W1 wr) (fun s9 s10 _ => (intOf s10).toNat - (intOf s9).toNat)
  case atStart => exact ⟨0, L.length, rfl, rfl, Nat.zero_le _, Nat.le_refl _, fun j x h => absurd h (by omega), fun j x h hx => by have := (List.getElem?_eq_some_iff.1 hx).1; rw [HL1.out] at this; omega, Below.refl _ _⟩
  case round =>
    obtain ⟨lo, hi, rfl, rfl, hlh, hhi, HLO, HHI, hb⟩ := hrel
    by_cases hlt : lo < hi
    · obtain ⟨b, off, rfl, hbs, hc⟩ := HR.out (by omega)
      obtain ⟨x, hx, hxp⟩ := fs_get (show (lo + hi) / 2 < L.length by omega)
      have hix := HP.out x (List.mem_of_getElem? hx)
      obtain ⟨c0, c1, c2, c3, c4⟩ := fr_cells hc hx
      have hcp := Lib.hid (fun W (hW : Below W1.heap.size W1 W) => HCP.out x hix W (trans9 HB0.out hW))
      have hpl := Lib.hid (HPL.out _ _ hxp)
      have hph := Lib.hid (HPH.out _ _ hxp)
      obtain ⟨A1, n1, cap1, hx1⟩ : ∃ A1 n1 cap1, x.v = .slice A1 n1 cap1 := by obtain ⟨_, _, h, _⟩ := hix.1.1; exact ⟨_, _, _, h⟩
      have hyes := Lib.hid (bs_yes (f := cmpF) (l := fms L) (y := (fm ⟨⟨yn, yk, yu, yh⟩, .slice A2 n2 cap2, yL⟩)) hxp)
      have hcf : cmpF (fm x) (fm ⟨⟨yn, yk, yu, yh⟩, .slice A2 n2 cap2, yL⟩) = cb x.hd.n yn := rfl
      rw [hcf] at hpl hph hyes
      obtain ⟨⟨pn, pk, pu, ph⟩, xv, xL⟩ := x
      simp only at hx1
      subst hx1
      have hR : ∀ o u, w.cell? ⟨b, o, none⟩ = some u → ∀ z, Below W1.heap.size W1 z → z.cell? ⟨b, o, none⟩ = some u := fun o u hu z hz2 => ((trans9 HB0.out hz2).cell (p := ⟨b, o, none⟩) hbs).trans hu
      simp only at c0 c1 c2 c3 c4 hpl hph hcp hyes
      have r0 := hR _ _ c0
      have r1 := hR _ _ c1
      have r2 := hR _ _ c2
      have r3 := hR _ _ c3
      have r4 := hR _ _ c4
      have HB := Lib.hid hb
      clear hc c0 c1 c2 c3 c4 hR hx hxp hix hbs
      generalize cb pn yn = C at hpl hph hcp hyes
      have hd1 : decide ((lo : Int) < (hi : Int)) = true := decide_eq_true (by omega)
      have hmi : ((lo : Int) + (hi : Int)) / 2 = (((lo + hi) / 2 : Nat) : Int) := by omega
      generalize hm' : (lo + hi) / 2 = m' at *
      have hm1 : m' < L.length := by omega
      have hm2 : m' < hi := by omega
      have hm3 : lo ≤ m' := by omega
      have hm4 : (0 : Int) ≤ (m' : Int) := by omega
      have hm5 : (m' : Int) < (L.length : Int) := by omega
      clear hm' hyes
      by_cases hC : C < 0
      · have dC : decide (C < (0 : Int)) = true := decide_eq_true hC
        have hr := Lib.hid (hpl.out hC)
        clear hpl hph hC
        go_wp2_with fail
        go_region_held3 (fun z => Below W1.heap.size W1 z)
          (((repeat' first | assumption | exact Below.refl _ _ | exact Nat.le_refl _ | apply kp_alloc | apply kp_set | apply Below.drew | omega); done))
          ((first
            | (go_at_call 41; refine (hcp.out _ (by (repeat' first | assumption | apply Below.drew))).mono ?_; rintro e w3 ⟨rfl, b3⟩; have k3 : Below W1.heap.size W1 w3 := (by refine trans9 ?_ b3; (repeat' first | assumption | exact Below.refl _ _ | exact Nat.le_refl _ | apply kp_alloc | apply kp_set | apply Below.drew | omega)))))
        all_goals
          go_wp2_with fail
          go_roundw
          case rel => exact ⟨m' + 1, hi, by go_num, rfl, by omega, hhi, hr.out, HHI.out, k3⟩
          case measure => simp [intOf]; omega
      · have dC : decide (C < (0 : Int)) = false := decide_eq_false hC
        have hr := Lib.hid (hph.out (by omega))
        clear hpl hph hC
        go_wp2_with fail
        go_region_held3 (fun z => Below W1.heap.size W1 z)
          (((repeat' first | assumption | exact Below.refl _ _ | exact Nat.le_refl _ | apply kp_alloc | apply kp_set | apply Below.drew | omega); done))
          ((first
            | (go_at_call 41; refine (hcp.out _ (by (repeat' first | assumption | apply Below.drew))).mono ?_; rintro e w3 ⟨rfl, b3⟩; have k3 : Below W1.heap.size W1 w3 := (by refine trans9 ?_ b3; (repeat' first | assumption | exact Below.refl _ _ | exact Nat.le_refl _ | apply kp_alloc | apply kp_set | apply Below.drew | omega)))))
        all_goals
          go_wp2_with fail
          go_roundw
          case rel => exact ⟨lo, m', rfl, rfl, by omega, by omega, HLO.out, hr.out, k3⟩
          case measure => simp [intOf]; omega
    · obtain rfl : lo = hi := by omega
      have hd1 : decide ((lo : Int) < (lo : Int)) = false := decide_eq_false (by omega)
      by_cases hll : lo < L.length
      · obtain ⟨b, off, rfl, hbs, hc⟩ := HR.out (by omega)
        obtain ⟨x, hx, hxp⟩ := fs_get (show lo < L.length by omega)
        have hix := HP.out x (List.mem_of_getElem? hx)
        obtain ⟨c0, c1, c2, c3, c4⟩ := fr_cells hc hx
        have hcp := Lib.hid (fun W (hW : Below W1.heap.size W1 W) => HCP.out x hix W (trans9 HB0.out hW))
        have hpl := Lib.hid (HPL.out _ _ hxp)
        have hph := Lib.hid (HPH.out _ _ hxp)
        obtain ⟨A1, n1, cap1, hx1⟩ : ∃ A1 n1 cap1, x.v = .slice A1 n1 cap1 := by obtain ⟨_, _, h, _⟩ := hix.1.1; exact ⟨_, _, _, h⟩
        have hyes := Lib.hid (bs_yes (f := cmpF) (l := fms L) (y := (fm ⟨⟨yn, yk, yu, yh⟩, .slice A2 n2 cap2, yL⟩)) hxp)
        have hcf : cmpF (fm x) (fm ⟨⟨yn, yk, yu, yh⟩, .slice A2 n2 cap2, yL⟩) = cb x.hd.n yn := rfl
        rw [hcf] at hpl hph hyes
        obtain ⟨⟨pn, pk, pu, ph⟩, xv, xL⟩ := x
        simp only at hx1
        subst hx1
        have hR : ∀ o u, w.cell? ⟨b, o, none⟩ = some u → ∀ z, Below W1.heap.size W1 z → z.cell? ⟨b, o, none⟩ = some u := fun o u hu z hz2 => ((trans9 HB0.out hz2).cell (p := ⟨b, o, none⟩) hbs).trans hu
        simp only at c0 c1 c2 c3 c4 hpl hph hcp hyes
        have r0 := hR _ _ c0
        have r1 := hR _ _ c1
        have r2 := hR _ _ c2
        have r3 := hR _ _ c3
        have r4 := hR _ _ c4
        have HB := Lib.hid hb
        clear hc c0 c1 c2 c3 c4 hR hx hxp hix hbs
        generalize cb pn yn = C at hpl hph hcp hyes
        have hd2 : decide ((lo : Int) < (L.length : Int)) = true := decide_eq_true (by omega)
        have hl5 : (lo : Int) < (L.length : Int) := by omega
        have hl6 : (0 : Int) ≤ (lo : Int) := by omega
        clear hpl hph
        by_cases hC : C = 0
        · have dC : (C == (0 : Int)) = true := by simpa using hC
          have hr := Lib.hid (hyes.out.1 hC)
          clear hyes hC
          go_wp2_with fail
          go_region_held3 (fun z => Below W1.heap.size W1 z)
            (((repeat' first | assumption | exact Below.refl _ _ | exact Nat.le_refl _ | apply kp_alloc | apply kp_set | apply Below.drew | omega); done))
            ((first
              | (go_at_call 41; refine (hcp.out _ (by (repeat' first | assumption | apply Below.drew))).mono ?_; rintro e w3 ⟨rfl, b3⟩; have k3 : Below W1.heap.size W1 w3 := (by refine trans9 ?_ b3; (repeat' first | assumption | exact Below.refl _ _ | exact Nat.le_refl _ | apply kp_alloc | apply kp_set | apply Below.drew | omega)))))
          all_goals
            go_wp2_with fail
            go_ret2
            exact ⟨⟨lo, true, rfl, by rw [HL1.out]; omega, HLO.out, HHI.out, ⟨fun _ => hr.out, fun _ => rfl⟩⟩, trans9 HB0.out k3⟩
        · have dC : (C == (0 : Int)) = false := by simpa using hC
          have hr := Lib.hid (hyes.out.2 hC)
          clear hyes hC
          go_wp2_with fail
          go_region_held3 (fun z => Below W1.heap.size W1 z)
            (((repeat' first | assumption | exact Below.refl _ _ | exact Nat.le_refl _ | apply kp_alloc | apply kp_set | apply Below.drew | omega); done))
            ((first
              | (go_at_call 41; refine (hcp.out _ (by (repeat' first | assumption | apply Below.drew))).mono ?_; rintro e w3 ⟨rfl, b3⟩; have k3 : Below W1.heap.size W1 w3 := (by refine trans9 ?_ b3; (repeat' first | assumption | exact Below.refl _ _ | exact Nat.le_refl _ | apply kp_alloc | apply kp_set | apply Below.drew | omega)))))
          all_goals
            go_wp2_with fail
            go_ret2
            exact ⟨⟨lo, false, rfl, by rw [HL1.out]; omega, HLO.out, HHI.out, ⟨fun z => absurd z (by decide), fun z => absurd z hr.out⟩⟩, trans9 HB0.out k3⟩
      · have hd2 : decide ((lo : Int) < (L.length : Int)) = false := decide_eq_false (by omega)
        have hr := Lib.hid (bs_end (f := cmpF) (l := fms L) (y := (fm ⟨⟨yn, yk, yu, yh⟩, .slice A2 n2 cap2, yL⟩)) (i := lo) (by rw [HL1.out]; omega))
        go_wp2_with fail
        go_quiet (fail)
        go_wp2_with fail
        go_ret2
        exact ⟨⟨lo, false, rfl, by rw [HL1.out]; omega, HLO.out, HHI.out, hr.out⟩, trans9 HB0.out (by first | exact hb | exact below_drewN hb _)⟩

end Go.Proofs.YtjeefgamkoeiaaaGreatDoor

/- The walk of package merge's replaced. -/
set_option maxRecDepth 100000
set_option linter.unusedVariables false
set_option linter.unusedSimpArgs false
namespace Go.Proofs.YtjeefgamkoeiaaaGreatDoor
open Go.RowKit Go.Sort Dc
attribute [local go_sem ↓] Go.wp_at_zero Go.wp_at_succ

section
variable {α : Type} {f : α → α → Int}
theorem bs_look (hf : TP f) {l : List α} (hs : StrictT f l) {y : α} {i : Nat} {b : Bool} (h1 : ∀ j x, j < i → l[j]? = some x → f x y < 0) (h2 : ∀ j x, i ≤ j → l[j]? = some x → 0 ≤ f x y)
    (h3 : b = true ↔ ∃ x, l[i]? = some x ∧ f x y = 0) : b = (look f l y).isSome := by
  cases hl : look f l y with
  | none =>
    cases b with
    | false => rfl
    | true =>
      obtain ⟨x, hx, e⟩ := h3.1 rfl
      exact absurd e (look_none.1 hl x (List.mem_of_getElem? hx))
  | some x =>
    obtain ⟨hx, e⟩ := look_some hl
    obtain ⟨j, hj, rfl⟩ := List.getElem_of_mem hx
    have hj' : l[j]? = some l[j] := List.getElem?_eq_getElem hj
    have hij : ¬ j < i := fun h => by have := h1 j _ h hj'; omega
    have hji : ¬ i < j := fun h => by
      have hi : i < l.length := by omega
      have a := List.pairwise_iff_getElem.1 hs i j hi hj h
      have b := h2 i l[i] (Nat.le_refl _) (List.getElem?_eq_getElem hi)
      have c := hf.cong' e l[i]
      omega
    obtain rfl : j = i := by omega
    exact h3.2 ⟨_, hj', e⟩
theorem bs_none (hf : TP f) {l : List α} {y : α} {i : Nat} (h2 : ∀ j x, i ≤ j → l[j]? = some x → 0 ≤ f x y) (h : look f l y = none) : ∀ j x, i ≤ j → l[j]? = some x → 0 < f x y := fun j x hj hx => by
  have := h2 j x hj hx
  have := look_none.1 h x (List.mem_of_getElem? hx)
  omega
end
theorem one_pt {X : World} {g : Nat} {x : Ps} (hg : g < X.heap.size) (hc : ∀ j u, (encP x)[j]? = some u → X.cell? ⟨g, j, none⟩ = some u) : KRow encP 9 X (.slice (some ⟨g, 0, none⟩) 1 1) [x] :=
  ⟨_, 1, rfl, Nat.le_refl _, by unfold maxLen; omega, (by rintro ⟨⟩), fun _ => ⟨g, 0, rfl, hg, fun i y hy j u hu => by
    match i, hy with
    | 0, hy =>
      obtain rfl : x = y := by simpa using hy
      have := hc j u hu
      simpa using this
    | i + 1, hy => simp at hy⟩⟩
/-- a row of one, in a block of its own -/
theorem new_pt (w : World) (v : Value) (p : Pt) : KRow encP 9 (w.alloc (.cells (ptc v p) 53)) (.slice (some ⟨w.heap.size, 0, none⟩) 1 1) [(v, p)] := by
  obtain ⟨c0, c1, c2, c3, c4, c5, c6, c7, c8, _, hl⟩ := PtAt.new w v p 53
  refine one_pt hl fun j u hu => ?_
  unfold encP at hu
  match j, hu with
  | 0, hu => obtain rfl := Option.some.inj hu; exact c0
  | 1, hu => obtain rfl := Option.some.inj hu; exact c1
  | 2, hu => obtain rfl := Option.some.inj hu; exact c2
  | 3, hu => obtain rfl := Option.some.inj hu; exact c3
  | 4, hu => obtain rfl := Option.some.inj hu; exact c4
  | 5, hu => obtain rfl := Option.some.inj hu; exact c5
  | 6, hu => obtain rfl := Option.some.inj hu; exact c6
  | 7, hu => obtain rfl := Option.some.inj hu; exact c7
  | 8, hu => obtain rfl := Option.some.inj hu; exact c8
  | j + 9, hu => simp at hu

/-- what a has besides b -/
abbrev besP (La Lb : List Ps) : List Ps := La.filter fun x => (look cmpP (pts Lb) x.2).isNone
theorem besP_pts (La Lb : List Ps) : pts (besP La Lb) = (pts La).filter fun p => (look cmpP (pts Lb) p).isNone := by
  unfold besP pts
  rw [List.filter_map]
  rfl
theorem besP_yes {La Lb : List Ps} {k : Nat} {x : Ps} (hx : La[k]? = some x) (h : (look cmpP (pts Lb) x.2).isSome = false) : Lb ++ besP (La.take k) Lb ++ [x] = Lb ++ besP (La.take (k + 1)) Lb := by
  obtain ⟨hk, rfl⟩ := List.getElem?_eq_some_iff.1 hx
  rw [List.take_succ_eq_append_getElem hk, besP, besP, List.filter_append, List.append_assoc]
  congr 2
  rw [List.filter_cons, if_pos (by simpa using h)]; rfl
theorem besP_no {La Lb : List Ps} {k : Nat} {x : Ps} (hx : La[k]? = some x) (h : (look cmpP (pts Lb) x.2).isSome = true) : besP (La.take k) Lb = besP (La.take (k + 1)) Lb := by
  obtain ⟨hk, rfl⟩ := List.getElem?_eq_some_iff.1 hx
  rw [List.take_succ_eq_append_getElem hk, besP, besP, List.filter_append, List.filter_cons, if_neg (by rw [Option.isNone_iff_eq_none, ← Option.not_isSome_iff_eq_none, h]; simp)]
  simp
theorem besP_len (La Lb : List Ps) (k : Nat) : (besP (La.take k) Lb).length ≤ La.length := by
  have h1 : (besP (La.take k) Lb).length ≤ (La.take k).length := List.length_filter_le _ _
  rw [List.length_take] at h1
  omega
set_option maxHeartbeats 8000000 in
theorem replaced_calls (La Lb : List Ps) (va vb : Value) (w : World) (ha : PtRow w va La) (hb : PtRow w vb Lb) (hn : La.length ≤ 500) (hm : Lb.length ≤ 500) (hs : StrictP (pts Lb)) :
    Calls Tryz.prog 32 #[va, vb] w fun e w' => ∃ v', e = .returned v' ∧ Below w.heap.size w w' ∧ PtOwn w' w.heap.size v' (Lb ++ besP La Lb) := by
  have hcl := Lib.hid (pclone_calls Lb vb w hb (by omega))
  have HP := Lib.hid ha.2
  have HBS := Lib.hid (fun (x : Ps) (hx : PsIn w x) W (hW : Below w.heap.size w W) => pbs_calls Lb vb x W (hb.below hW) ⟨hx.1.below hW, hx.2⟩ (by omega) hs)
  have HS := Lib.hid hs
  have HE := Lib.hid (fun (x : Ps) (hx : PsIn w x) => encP_one hx)
  have hvb := pt_one hb
  obtain ⟨A, cap, rfl, hlc, hcm, hnil, hrow⟩ := ha.1
  unfold maxLen at hcm
  have HR := Lib.hid hrow
  clear hrow hnil ha hb hs
  go_enter Tryz.func32, Tryz.ntmps32
  go_wp2_with fail
  refine hcl.out.mono ?_
  rintro e w1 ⟨v1, rfl, b1, own⟩
  have B1 := Lib.hid b1
  have O1 := Lib.hid own
  clear b1 own
  go_wp2_with fail
  go_loopw [14, 5] (fun s t wr => ∃ (k : Nat) (tv : Value), k ≤ La.length ∧ s = .int .i64 (k : Nat) ∧ tv = t ∧ Hid (PtOwn wr w.heap.size tv (Lb ++ besP (La.take k) Lb)) ∧ Below w.heap.size w wr) (fun s _ _ => La.length - (intOf s).toNat)
  case atStart => exact ⟨0, _, Nat.zero_le _, rfl, rfl, Lib.hid (by simpa [besP] using O1.out), B1.out⟩
  case round =>
    clear O1 B1
    obtain ⟨k, tv, hk, rfl, rfl, O, hb⟩ := hrel
    by_cases hkl : k < La.length
    · obtain ⟨b, off, rfl, hbs, hc⟩ := HR.out (by omega)
      obtain ⟨x, hx, hxp⟩ := ps_get hkl
      have hix := HP.out x (List.mem_of_getElem? hx)
      obtain ⟨c0, c1, c2, c3, c4, c5, c6, c7, c8⟩ := pr_cells hc hx
      have hbc := Lib.hid (fun W hW => HBS.out x hix W hW)
      have hye := Lib.hid (fun h => besP_yes (Lb := Lb) hx h)
      have hne := Lib.hid (fun h => besP_no (Lb := Lb) hx h)
      have hone := Lib.hid (HE.out x hix)
      have hbl := besP_len La Lb k
      obtain ⟨A1, n1, cap1, hx1⟩ : ∃ A1 n1 cap1, x.1 = .slice A1 n1 cap1 := by obtain ⟨_, _, h, _⟩ := hix.1; exact ⟨_, _, _, h⟩
      obtain ⟨xv, p⟩ := x
      simp only at hx1
      subst hx1
      have hnew := Lib.hid (fun W => new_pt W (.slice A1 n1 cap1) p)
      have hlk := Lib.hid (fun i b => bs_look tp_cmpP HS.out (y := p) (i := i) (b := b))
      obtain ⟨pl, ro, inf, bm, bs, m, s, td, ti⟩ := p
      have hR : ∀ o u, w.cell? ⟨b, o, none⟩ = some u → wr.cell? ⟨b, o, none⟩ = some u := fun o u hu => (hb.cell (p := ⟨b, o, none⟩) hbs).trans hu
      simp only at c0 c1 c2 c3 c4 c5 c6 c7 c8 hbc hye hne hone hlk
      have r0 := hR _ _ c0
      have r1 := hR _ _ c1
      have r2 := hR _ _ c2
      have r3 := hR _ _ c3
      have r4 := hR _ _ c4
      have r5 := hR _ _ c5
      have r6 := hR _ _ c6
      have r7 := hR _ _ c7
      have r8 := hR _ _ c8
      have hk1 := Lib.hid (kp_alloc hb (.cells #[.slice A1 n1 cap1, .int .i64 ro, .bool inf, .int .i64 bm, .int .i64 bs, .int .i64 m, .int .i64 s, .bool td, .int .i64 ti] 53))
      have hya := PtAt.new wr (.slice A1 n1 cap1) ⟨pl, ro, inf, bm, bs, m, s, td, ti⟩ 53
      clear hc c0 c1 c2 c3 c4 c5 c6 c7 c8 hR hx hxp hix hbs
      generalize look cmpP _ _ = C at hye hne hlk
      go_wp2_with fail
      obtain ⟨W1, hW1⟩ : ∃ W, W = wr.alloc (.cells #[.slice A1 n1 cap1, .int .i64 ro, .bool inf, .int .i64 bm, .int .i64 bs, .int .i64 m, .int .i64 s, .bool td, .int .i64 ti] 53) := ⟨_, rfl⟩
      have O1 : Hid (PtOwn W1 w.heap.size tv (Lb ++ besP (La.take k) Lb)) := Lib.hid (by rw [hW1]; exact own_alloc O.out _)
      simp only [ptc] at hya
      rw [← hW1] at hya hk1 ⊢
      clear hW1 O r0 r1 r2 r3 r4 r5 r6 r7 r8
      refine (hbc.out _ hk1.out).mono ?_
      rintro e w2 ⟨⟨i, bb, rfl, hi, h1, h2, h3⟩, b2⟩
      have hbb := hlk.out i bb h1 h2 h3
      have hyb := hya.below b2
      obtain ⟨y0, y1, y2, y3, y4, y5, y6, y7, y8, _, hlt⟩ := hyb
      have O2 : Hid (PtOwn w2 w.heap.size tv (Lb ++ besP (La.take k) Lb)) := Lib.hid (own_below O1.out b2)
      have hk2 := Lib.hid (trans9 hk1.out b2)
      have hsz := hk2.out.size
      simp only at y0 y1 y2 y3 y4 y5 y6 y7 y8
      clear h1 h2 h3 hi hya O1 hk1 b2 hlk hb
      generalize wr.heap.size = q at *
      cases bb with
      | true =>
        have hr := Lib.hid (hne.out hbb.symm)
        clear hye hne hbb
        go_wp2_with fail
        go_roundw
        case rel => exact ⟨k + 1, _, hkl, by go_num, rfl, Lib.hid (by rw [← hr.out]; exact O2.out), hk2.out⟩
        case measure => simp [intOf]; omega
      | false =>
        have hr := Lib.hid (hye.out hbb.symm)
        clear hye hne hbb
        go_wp2_with (at_builtin; refine wpList_append_krow ptTy encP_len (by rfl) _ _ (by rfl) w.heap.size _ (Lb ++ besP (La.take k) Lb) (by rfl) (own_alloc O2.out _) _ [(.slice A1 n1 cap1, ⟨pl, ro, inf, bm, bs, m, s, td, ti⟩)] (by rfl) (hnew.out w2) (fun x hx => by rw [List.mem_singleton.1 hx]; exact hone.out) (by rw [List.length_append]; simp; omega) (by simp; omega) ?_; intro v5 w5 o5 g5)
        have hk5 := Lib.hid (Below.grown (kp_alloc hk2.out _) g5 (by simp; omega) (fun z hz => own_ge O2.out z hz))
        go_wp2_with fail
        go_roundw
        case rel => exact ⟨k + 1, _, hkl, by go_num, rfl, Lib.hid (by rw [← hr.out]; exact o5), hk5.out⟩
        case measure => simp [intOf]; omega
    · have hr : La.take k = La := List.take_of_length_le (by omega)
      rw [hr] at O
      go_wp2
      go_ret
      exact ⟨_, rfl, hb, O.out⟩

end Go.Proofs.YtjeefgamkoeiaaaGreatDoor

/- The walk of package merge's Put. -/
set_option maxRecDepth 100000
set_option linter.unusedVariables false
set_option linter.unusedSimpArgs false
namespace Go.Proofs.YtjeefgamkoeiaaaGreatDoor
open Go.RowKit Go.Sort Dc
attribute [local go_sem ↓] Go.wp_at_zero Go.wp_at_succ

theorem KOwn.ofBlock {α : Type} {enc : α → List Value} {el k : Nat} {w X : World} {base : Nat} {v : Value} {L : List α} (h : KOwn enc el k w base v L) (e : ∀ b, v.ownBlock = some b → X.heap[b]? = w.heap[b]?) : KOwn enc el k X base v L := by
  obtain ⟨hl, h⟩ := h
  refine ⟨hl, ?_⟩
  rcases h with h | ⟨g, cap, cur, rfl, hg, hc, h2⟩
  · exact Or.inl h
  · exact Or.inr ⟨g, cap, cur, rfl, hg, by rw [e g rfl]; exact hc, h2⟩
theorem own_pt {w X : World} {base : Nat} {v : Value} {R : List Ps} (h : PtOwn X base v R) (hin : ∀ x ∈ R, PsIn w x) (hb : Below w.heap.size w X) : PtRow X v R := ⟨KOwn.row encP_len h, fun x hx => ⟨(hin x hx).1.below hb, (hin x hx).2⟩⟩
theorem FamAt.set2 {w : World} {b : Nat} {h : Hd} {v : Value} (k : FamAt w b h v) (s : List UInt8) : FamAt (w.setCell ⟨b, 2, none⟩ (.string (str s))) b ⟨h.n, h.k, s, h.h⟩ v := by
  have h0 := k.c0
  have h1 := k.c1
  have h2 := k.c2
  have h3 := k.c3
  have h4 := k.c4
  exact ⟨by simp [go_sem, h0], by simp [go_sem, h1], by simp [go_sem, h2], by simp [go_sem, h3], by simp [go_sem, h4], fun o => by simpa using k.fr o, by simpa [World.setCell] using k.lt⟩
theorem FamAt.set3 {w : World} {b : Nat} {h : Hd} {v : Value} (k : FamAt w b h v) (s : List UInt8) : FamAt (w.setCell ⟨b, 3, none⟩ (.string (str s))) b ⟨h.n, h.k, h.u, s⟩ v := by
  have h0 := k.c0
  have h1 := k.c1
  have h2 := k.c2
  have h3 := k.c3
  have h4 := k.c4
  exact ⟨by simp [go_sem, h0], by simp [go_sem, h1], by simp [go_sem, h2], by simp [go_sem, h3], by simp [go_sem, h4], fun o => by simpa using k.fr o, by simpa [World.setCell] using k.lt⟩
theorem FamAt.alloc' {w : World} {b : Nat} {h : Hd} {v : Value} (k : FamAt w b h v) (o : Obj) : FamAt (w.alloc o) b h v := k.below ((Below.refl _ _).alloc (Nat.le_refl _) o)

/-- what Put hands back -/
def putO (x y : Fp) : Option Fp := if x.1.n = y.1.n ∧ x.1.k = y.1.k ∧ famOk x.1 x.2 = true ∧ famOk y.1 y.2 = true then some (putP x y) else none
theorem putO_yes {x y : Fp} (h1 : x.1.n = y.1.n) (h2 : x.1.k = y.1.k) (h3 : famOk x.1 x.2 = true) (h4 : famOk y.1 y.2 = true) : putO x y = some (putP x y) := if_pos ⟨h1, h2, h3, h4⟩
theorem putO_no {x y : Fp} (h : ¬ (x.1.n = y.1.n ∧ x.1.k = y.1.k ∧ famOk x.1 x.2 = true ∧ famOk y.1 y.2 = true)) : putO x y = none := if_neg h
def PutRes (z : Nat) (o : Option Fp) (e : Ending) (w' : World) : Prop :=
  ∃ A n cap M h, e = .returned (.tuple #[famv h (.slice A n cap), .bool o.isSome]) ∧ PtKeep w' z (.slice A n cap) M ∧ (h, pts M) = o.getD (hd0, [])
theorem PutRes.no {z : Nat} {o : Option Fp} {w' : World} (h : o = none) : PutRes z o (.returned (.tuple #[famv hd0 (.slice none 0 0), .bool false])) w' :=
  ⟨none, 0, 0, [], hd0, by rw [h]; rfl, fun X _ _ => PtRow.nil X, by rw [h]; rfl⟩
theorem PutRes.yes {z : Nat} {o : Option Fp} {w' : World} {h : Hd} {A : Option Addr} {n cap : Nat} {M : List Ps} (ho : o = some (h, pts M)) (hk : PtKeep w' z (.slice A n cap) M) : PutRes z o (.returned (.tuple #[famv h (.slice A n cap), .bool true])) w' :=
  ⟨A, n, cap, M, h, by rw [ho]; rfl, hk, by rw [ho]; rfl⟩
theorem rep_in {w : World} {La Lb : List Ps} (ha : ∀ x ∈ La, PsIn w x) (hb : ∀ x ∈ Lb, PsIn w x) : ∀ x ∈ Lb ++ besP La Lb, PsIn w x := fun x hx => by
  rcases List.mem_append.1 hx with h | h
  · exact hb x h
  · exact ha x (List.mem_filter.1 h).1
theorem rep_len {La Lb : List Ps} (ha : La.length ≤ 500) (hb : Lb.length ≤ 500) : (Lb ++ besP La Lb).length ≤ 1000 := by
  have h1 : (besP La Lb).length ≤ La.length := List.length_filter_le _ _
  rw [List.length_append]; omega
theorem rep_lab {La Lb : List Ps} (ha : ∀ x ∈ La, x.2.l.length ≤ 1000) (hb : ∀ x ∈ Lb, x.2.l.length ≤ 1000) : ∀ x ∈ Lb ++ besP La Lb, x.2.l.length ≤ 1000 := fun x hx => by
  rcases List.mem_append.1 hx with h | h
  · exact hb x h
  · exact ha x (List.mem_filter.1 h).1
theorem rep_srt {La Lb : List Ps} (ha : StrictP (pts La)) (hb : StrictP (pts Lb)) : psrt (pts (Lb ++ besP La Lb)) = some (mrgP (pts La) (pts Lb)) := by
  rw [← psrt_rep ha hb, ← besP_pts]
  unfold pts
  rw [List.map_append]

set_option maxHeartbeats 16000000 in
theorem put_calls (x y : Fs) (w : World) (hx : FsIn w x) (hy : FsIn w y) (hn : x.L.length ≤ 500) (hm : y.L.length ≤ 500) (hl : ∀ p ∈ x.L, p.2.l.length ≤ 1000) (hl2 : ∀ p ∈ y.L, p.2.l.length ≤ 1000) (hT : ShPl w) :
    Calls Tryz.prog 15 #[famv x.hd x.v, famv y.hd y.v] w fun e w' => PutRes w.heap.size (putO (fm x) (fm y)) e w' ∧ Below w.heap.size w w' := by
  have hGA := Lib.hid (fun W (hW : Below w.heap.size w W) => fgood_calls x.hd x.L x.v W (hx.1.below hW) (by omega) hx.2 (shpl_below hT hW))
  have hGB := Lib.hid (fun W (hW : Below w.heap.size w W) => fgood_calls y.hd y.L y.v W (hy.1.below hW) (by omega) hy.2 (shpl_below hT hW))
  have hRP := Lib.hid (fun W (hW : Below w.heap.size w W) (hs : StrictP (pts y.L)) => replaced_calls x.L y.L x.v y.v W (hx.1.below hW) (hy.1.below hW) hn hm hs)
  have hIN := Lib.hid (rep_in hx.1.2 hy.1.2)
  have hLN := Lib.hid (rep_len hn hm)
  have hLB := Lib.hid (rep_lab hl hl2)
  have hSR := Lib.hid (fun ha hb => rep_srt (La := x.L) (Lb := y.L) ha hb)
  have hYES := Lib.hid (fun h1 h2 h3 h4 => putO_yes (x := fm x) (y := fm y) h1 h2 h3 h4)
  have hNO := Lib.hid (fun h => putO_no (x := fm x) (y := fm y) h)
  have hSA := Lib.hid (fun h => famOk_strict (h := x.hd) (l := pts x.L) h)
  have hSB := Lib.hid (fun h => famOk_strict (h := y.hd) (l := pts y.L) h)
  have k0 := kp_alloc (kp_alloc (kp_alloc (Below.refl w.heap.size w) (.cells (famc x.hd x.v) 41)) (.cells (famc y.hd y.v) 41)) (.cells (famc hd0 (.slice none 0 0)) 41)
  have F0 := ((FamAt.new w x.hd x.v 41).alloc' (.cells (famc y.hd y.v) 41)).alloc' (.cells (famc hd0 (.slice none 0 0)) 41)
  have G0 := (FamAt.new (w.alloc (.cells (famc x.hd x.v) 41)) y.hd y.v 41).alloc' (.cells (famc hd0 (.slice none 0 0)) 41)
  have R0 := FamAt.new ((w.alloc (.cells (famc x.hd x.v) 41)).alloc (.cells (famc y.hd y.v) 41)) hd0 (.slice none 0 0) 41
  rw [show (w.alloc (.cells (famc x.hd x.v) 41)).heap.size = w.heap.size + 1 by simp] at G0
  rw [show ((w.alloc (.cells (famc x.hd x.v) 41)).alloc (.cells (famc y.hd y.v) 41)).heap.size = w.heap.size + 1 + 1 by simp] at R0
  obtain ⟨A1, n1, cap1, hx1⟩ : ∃ A1 n1 cap1, x.v = .slice A1 n1 cap1 := by obtain ⟨A, cap, he, _⟩ := hx.1.1; exact ⟨A, _, cap, he⟩
  obtain ⟨A2, n2, cap2, hy1⟩ : ∃ A1 n1 cap1, y.v = .slice A1 n1 cap1 := by obtain ⟨A, cap, he, _⟩ := hy.1.1; exact ⟨A, _, cap, he⟩
  generalize putO (fm x) (fm y) = O at *
  obtain ⟨⟨n, k, u, hh⟩, xv, La⟩ := x
  obtain ⟨⟨n', k', u', hh'⟩, yv, Lb⟩ := y
  simp only at hx1 hy1
  subst hx1 hy1
  simp only [fm] at hYES hNO hGA hGB hRP hIN hLN hLB hSR hSA hSB
  clear hx hy hn hm hl hl2 hT
  obtain ⟨W0, hW0⟩ : ∃ W, W = ((w.alloc (.cells #[.string (str n), .int .i64 k, .string (str u), .string (str hh), .slice A1 n1 cap1] 41)).alloc (.cells #[.string (str n'), .int .i64 k', .string (str u'), .string (str hh'), .slice A2 n2 cap2] 41)).alloc (.cells #[.string ⟨#[]⟩, .int .i64 0, .string ⟨#[]⟩, .string ⟨#[]⟩, .slice none 0 0] 41) := ⟨_, rfl⟩
  have K0 : Hid (Below w.heap.size w W0) := Lib.hid (by rw [hW0]; exact k0)
  have FA : Hid (FamAt W0 w.heap.size ⟨n, k, u, hh⟩ (.slice A1 n1 cap1)) := Lib.hid (by rw [hW0]; exact F0)
  have FB : Hid (FamAt W0 (w.heap.size + 1) ⟨n', k', u', hh'⟩ (.slice A2 n2 cap2)) := Lib.hid (by rw [hW0]; exact G0)
  have FR : Hid (FamAt W0 (w.heap.size + 1 + 1) hd0 (.slice none 0 0)) := Lib.hid (by rw [hW0]; exact R0)
  clear k0 F0 G0 R0
  go_enter Tryz.func15, Tryz.ntmps15
  go_upto_region 1 with fail
  rw [← hW0]
  clear hW0
  by_cases hn : n = n'
  · subst hn
    by_cases hk : k = k'
    · subst hk
      cases hfa : famOk ⟨n, k, u, hh⟩ (pts La) with
      | false =>
        rw [hfa] at hGA
        have hr := Lib.hid (hNO.out (fun h => by rw [hfa] at h; exact absurd h.2.2.1 (by decide)))
        clear hYES hNO hRP hGB hSR hSA hSB hIN hLN hLB hfa
        obtain ⟨x0, x1, x2, x3, x4, xf, xl⟩ := FA.out
        obtain ⟨z0, z1, z2, z3, z4, zf, zl⟩ := FB.out
        obtain ⟨y0, y1, y2, y3, y4, yf, yl⟩ := FR.out
        go_wp2_with fail
        refine (hGA.out _ K0.out).mono ?_; rintro e w1 ⟨rfl, c1⟩
        have K1 := Lib.hid (trans9 K0.out c1)
        have FR1 := Lib.hid (FR.out.below c1)
        clear x0 x1 x2 x3 x4 xf xl z0 z1 z2 z3 z4 zf zl y0 y1 y2 y3 y4 yf yl c1
        obtain ⟨y0, y1, y2, y3, y4, yf, yl⟩ := FR1.out
        go_wp2
        refine bodyPost_ret (v := .tuple #[.agg #[.string ⟨#[]⟩, .int .i64 0, .string ⟨#[]⟩, .string ⟨#[]⟩, .slice none 0 0], .bool false]) (by simp [results, Tryz.results15, go_sem, y0, y1, y2, y3, y4]) rfl ⟨PutRes.no hr.out, ?_⟩
        exact ((((K1.out.setCell (by show w.heap.size ≤ w.heap.size + 1 + 1; omega) _).setCell (by show w.heap.size ≤ w.heap.size + 1 + 1; omega) _).setCell (by show w.heap.size ≤ w.heap.size + 1 + 1; omega) _).setCell (by show w.heap.size ≤ w.heap.size + 1 + 1; omega) _).setCell (by show w.heap.size ≤ w.heap.size + 1 + 1; omega) _
      | true =>
        rw [hfa] at hGA
        cases hfb : famOk ⟨n, k, u', hh'⟩ (pts Lb) with
        | false =>
          rw [hfb] at hGB
          have hr := Lib.hid (hNO.out (fun h => by rw [hfb] at h; exact absurd h.2.2.2 (by decide)))
          clear hYES hNO hRP hSR hSA hSB hIN hLN hLB hfb hfa
          obtain ⟨x0, x1, x2, x3, x4, xf, xl⟩ := FA.out
          obtain ⟨z0, z1, z2, z3, z4, zf, zl⟩ := FB.out
          obtain ⟨y0, y1, y2, y3, y4, yf, yl⟩ := FR.out
          go_wp2_with fail
          refine (hGA.out _ K0.out).mono ?_; rintro e w1 ⟨rfl, c1⟩
          have K1 := Lib.hid (trans9 K0.out c1)
          have FR1 := Lib.hid (FR.out.below c1)
          have FB1 := Lib.hid (FB.out.below c1)
          clear x0 x1 x2 x3 x4 xf xl z0 z1 z2 z3 z4 zf zl y0 y1 y2 y3 y4 yf yl c1
          obtain ⟨z0, z1, z2, z3, z4, zf, zl⟩ := FB1.out
          go_wp2_with fail
          refine (hGB.out _ K1.out).mono ?_; rintro e w2 ⟨rfl, c2⟩
          have K2 := Lib.hid (trans9 K1.out c2)
          have FR2 := Lib.hid (FR1.out.below c2)
          clear z0 z1 z2 z3 z4 zf zl c2
          obtain ⟨y0, y1, y2, y3, y4, yf, yl⟩ := FR2.out
          go_wp2
          refine bodyPost_ret (v := .tuple #[.agg #[.string ⟨#[]⟩, .int .i64 0, .string ⟨#[]⟩, .string ⟨#[]⟩, .slice none 0 0], .bool false]) (by simp [results, Tryz.results15, go_sem, y0, y1, y2, y3, y4]) rfl ⟨PutRes.no hr.out, ?_⟩
          exact ((((K2.out.setCell (by show w.heap.size ≤ w.heap.size + 1 + 1; omega) _).setCell (by show w.heap.size ≤ w.heap.size + 1 + 1; omega) _).setCell (by show w.heap.size ≤ w.heap.size + 1 + 1; omega) _).setCell (by show w.heap.size ≤ w.heap.size + 1 + 1; omega) _).setCell (by show w.heap.size ≤ w.heap.size + 1 + 1; omega) _
        | true =>
          rw [hfb] at hGB
          have hr := Lib.hid (hYES.out rfl rfl hfa hfb)
          have hsa := Lib.hid (hSA.out hfa)
          have hsb := Lib.hid (hSB.out hfb)
          have hsr := Lib.hid (hSR.out hsa.out hsb.out)
          clear hYES hNO hSR hSA hSB hfb hfa
          obtain ⟨x0, x1, x2, x3, x4, xf, xl⟩ := FA.out
          obtain ⟨z0, z1, z2, z3, z4, zf, zl⟩ := FB.out
          obtain ⟨y0, y1, y2, y3, y4, yf, yl⟩ := FR.out
          go_wp2_with fail
          refine (hGA.out _ K0.out).mono ?_; rintro e w1 ⟨rfl, c1⟩
          have K1 := Lib.hid (trans9 K0.out c1)
          have FA1 := Lib.hid (FA.out.below c1)
          have FR1 := Lib.hid (FR.out.below c1)
          have FB1 := Lib.hid (FB.out.below c1)
          clear x0 x1 x2 x3 x4 xf xl z0 z1 z2 z3 z4 zf zl y0 y1 y2 y3 y4 yf yl c1
          obtain ⟨z0, z1, z2, z3, z4, zf, zl⟩ := FB1.out
          go_wp2_with fail
          refine (hGB.out _ K1.out).mono ?_; rintro e w2 ⟨rfl, c2⟩
          have K2 := Lib.hid (trans9 K1.out c2)
          have FA2 := Lib.hid (FA1.out.below c2)
          have FB2 := Lib.hid (FB1.out.below c2)
          have FR2 := Lib.hid (FR1.out.below c2)
          clear z0 z1 z2 z3 z4 zf zl c2 K0 K1 FA FB FR FA1 FB1 FR1 hGA hGB
          obtain ⟨x0, x1, x2, x3, x4, xf, xl⟩ := FA2.out
          obtain ⟨z0, z1, z2, z3, z4, zf, zl⟩ := FB2.out
          obtain ⟨y0, y1, y2, y3, y4, yf, yl⟩ := FR2.out
          simp only at x0 x1 x2 x3 x4 z0 z1 z2 z3 z4
          have xf2 := xf 2
          have xf3 := xf 3
          have hne1 : w.heap.size ≠ w2.heap.size := by omega
          have hne2 : w.heap.size ≠ w2.heap.size + 1 := by omega
          go_wp2_with fail
          refine (ors_calls w2.heap.size u' u _ (by simp) (by simp) (by simp)).mono ?_; rintro e w3 ⟨rfl, rfl⟩
          go_upto_region 4 with fail
          obtain ⟨W3, hW3⟩ : ∃ W, W = (w2.setCell ⟨w.heap.size, 2, none⟩ (.string (str (orS u' u)))).alloc (.cells #[.string (str u'), .string (str u)] 9) := ⟨_, rfl⟩
          have K3 : Hid (Below w.heap.size w W3) := Lib.hid (by rw [hW3]; exact kp_alloc (kp_set K2.out (Nat.le_refl _)) _)
          have FA3 : Hid (FamAt W3 w.heap.size ⟨n, k, orS u' u, hh⟩ (.slice A1 n1 cap1)) := Lib.hid (by rw [hW3]; exact (FA2.out.set2 _).alloc' _)
          have FB3 : Hid (FamAt W3 (w.heap.size + 1) ⟨n, k, u', hh'⟩ (.slice A2 n2 cap2)) := Lib.hid (by rw [hW3]; exact (FB2.out.setOther (by omega)).alloc' _)
          have FR3 : Hid (FamAt W3 (w.heap.size + 1 + 1) hd0 (.slice none 0 0)) := Lib.hid (by rw [hW3]; exact (FR2.out.setOther (by omega)).alloc' _)
          rw [← hW3]
          clear hW3 x0 x1 x2 x3 x4 xf xl z0 z1 z2 z3 z4 zf zl y0 y1 y2 y3 y4 yf yl xf2 xf3 hne1 hne2 FA2 FB2 FR2 K2
          obtain ⟨x0, x1, x2, x3, x4, xf, xl⟩ := FA3.out
          obtain ⟨z0, z1, z2, z3, z4, zf, zl⟩ := FB3.out
          simp only at x0 x1 x2 x3 x4 z0 z1 z2 z3 z4
          have xf3 := xf 3
          have hne1 : w.heap.size ≠ W3.heap.size := by omega
          clear xf zf
          go_wp2_with fail
          refine (ors_calls W3.heap.size hh' hh _ (by simp) (by simp) (by simp)).mono ?_; rintro e w4 ⟨rfl, rfl⟩
          go_upto_region 5 with fail
          obtain ⟨W5, hW5⟩ : ∃ W, W = (W3.setCell ⟨w.heap.size, 3, none⟩ (.string (str (orS hh' hh)))).alloc (.cells #[.string (str hh'), .string (str hh)] 9) := ⟨_, rfl⟩
          have K5 : Hid (Below w.heap.size w W5) := Lib.hid (by rw [hW5]; exact kp_alloc (kp_set K3.out (Nat.le_refl _)) _)
          have FA5 : Hid (FamAt W5 w.heap.size ⟨n, k, orS u' u, orS hh' hh⟩ (.slice A1 n1 cap1)) := Lib.hid (by rw [hW5]; exact (FA3.out.set3 _).alloc' _)
          have FB5 : Hid (FamAt W5 (w.heap.size + 1) ⟨n, k, u', hh'⟩ (.slice A2 n2 cap2)) := Lib.hid (by rw [hW5]; exact (FB3.out.setOther (by omega)).alloc' _)
          have FR5 : Hid (FamAt W5 (w.heap.size + 1 + 1) hd0 (.slice none 0 0)) := Lib.hid (by rw [hW5]; exact (FR3.out.setOther (by omega)).alloc' _)
          rw [← hW5]
          clear hW5 x0 x1 x2 x3 x4 xl z0 z1 z2 z3 z4 zl xf3 hne1 FA3 FB3 FR3 K3
          have x4 := FA5.out.c4
          have z4 := FB5.out.c4
          go_wp2_with fail
          refine (hRP.out _ K5.out hsb.out).mono ?_; rintro e w6 ⟨v6, rfl, c6, own6⟩
          have FA6 := FA5.out.below c6
          have FR6 := FR5.out.below c6
          have K6 := Lib.hid (trans9 K5.out c6)
          have hxl5 := FA5.out.lt
          obtain ⟨A6, n6, cap6, hv6⟩ : ∃ A n cap, v6 = .slice A n cap := by obtain ⟨A, cap, he, _⟩ := (KOwn.row encP_len own6); exact ⟨A, _, cap, he⟩
          subst hv6
          have K7 : Hid (Below w.heap.size w (w6.setCell ⟨w.heap.size, 4, none⟩ (.slice A6 n6 cap6))) := Lib.hid (kp_set K6.out (Nat.le_refl _))
          have own7 : PtOwn (w6.setCell ⟨w.heap.size, 4, none⟩ (.slice A6 n6 cap6)) W5.heap.size (.slice A6 n6 cap6) (Lb ++ besP La Lb) := own6.ofBlock fun b hb => Below.heap_setCell _ _ _ _ (by have := own_ge own6 b hb; show b ≠ w.heap.size; omega)
          have hso := Lib.hid (fsort_any ⟨n, k, orS u' u, orS hh' hh⟩ (Lb ++ besP La Lb) (.slice A6 n6 cap6) _ (own_pt own7 hIN.out K7.out) hLN.out hLB.out)
          rw [hsr.out] at hso
          have FA7 := Lib.hid (FA6.set4 (u := .slice A6 n6 cap6))
          have FR7 := Lib.hid (FR6.setOther (c := w.heap.size) (i := 4) (u := .slice A6 n6 cap6) (by omega))
          have hsz6 : W5.heap.size ≤ w6.heap.size := c6.size
          have hrl := FR6.lt
          have c4 := FA6.c4
          have f4 := FA6.fr 4
          clear c6 own6 own7 hRP hIN hLN hLB FA6 FR6 FA5 FR5 K5 K6
          go_upto_region 6 with fail
          obtain ⟨W7, hW7⟩ : ∃ W, W = w6.setCell ⟨w.heap.size, 4, none⟩ (.slice A6 n6 cap6) := ⟨_, rfl⟩
          have hsz7 : W7.heap.size = w6.heap.size := by rw [hW7]; simp [World.setCell]
          rw [← hW7] at hso FA7 FR7 K7 ⊢
          clear hW7 c4 f4
          obtain ⟨x0, x1, x2, x3, x4, xf, xl⟩ := FA7.out
          simp only at x0 x1 x2 x3 x4
          go_wp2_with fail
          refine hso.out.mono ?_; rintro e w8 ⟨⟨A8, n8, cap8, M, rfl, hkp, hM⟩, c8⟩
          have K8 := Lib.hid (trans9 K7.out c8)
          have FR8 := Lib.hid (FR7.out.below c8)
          have HKP := Lib.hid hkp
          have hr2 : Hid (O = some (⟨n, k, orS u' u, orS hh' hh⟩, pts M)) := Lib.hid (by rw [hr.out, hM]; rfl)
          clear x0 x1 x2 x3 x4 xf xl hso FA7 FR7 c8 hkp hM hr
          obtain ⟨y0, y1, y2, y3, y4, yf, yl⟩ := FR8.out
          simp only [hdO]
          go_wp2
          refine bodyPost_ret (v := .tuple #[.agg #[.string (str n), .int .i64 k, .string (str (orS u' u)), .string (str (orS hh' hh)), .slice A8 n8 cap8], .bool true]) (by simp [results, Tryz.results15, go_sem, y0, y1, y2, y3, y4]) rfl ⟨PutRes.yes hr2.out ?_, ?_⟩
          · exact (((((HKP.out.setOld (by omega)).setOld (by omega)).setOld (by omega)).setOld (by omega)).setOld (by omega)).mono (by omega)
          · exact ((((K8.out.setCell (by show w.heap.size ≤ w.heap.size + 1 + 1; omega) _).setCell (by show w.heap.size ≤ w.heap.size + 1 + 1; omega) _).setCell (by show w.heap.size ≤ w.heap.size + 1 + 1; omega) _).setCell (by show w.heap.size ≤ w.heap.size + 1 + 1; omega) _).setCell (by show w.heap.size ≤ w.heap.size + 1 + 1; omega) _
    · have d1 : (k == k') = false := by simpa using hk
      have d2 : decide (k = k') = false := decide_eq_false hk
      have hr := Lib.hid (hNO.out (fun h => hk h.2.1))
      clear hYES hNO hRP hGA hGB hSR hSA hSB hIN hLN hLB
      obtain ⟨x0, x1, x2, x3, x4, xf, xl⟩ := FA.out
      obtain ⟨z0, z1, z2, z3, z4, zf, zl⟩ := FB.out
      obtain ⟨y0, y1, y2, y3, y4, yf, yl⟩ := FR.out
      go_wp2
      refine bodyPost_ret (v := .tuple #[.agg #[.string ⟨#[]⟩, .int .i64 0, .string ⟨#[]⟩, .string ⟨#[]⟩, .slice none 0 0], .bool false]) (by simp [results, Tryz.results15, go_sem, y0, y1, y2, y3, y4]) rfl ⟨PutRes.no hr.out, ?_⟩
      exact ((((K0.out.setCell (by show w.heap.size ≤ w.heap.size + 1 + 1; omega) _).setCell (by show w.heap.size ≤ w.heap.size + 1 + 1; omega) _).setCell (by show w.heap.size ≤ w.heap.size + 1 + 1; omega) _).setCell (by show w.heap.size ≤ w.heap.size + 1 + 1; omega) _).setCell (by show w.heap.size ≤ w.heap.size + 1 + 1; omega) _
  · have d1 : (n == n') = false := by simpa using hn
    have d2 : decide (n = n') = false := decide_eq_false hn
    have hr := Lib.hid (hNO.out (fun h => hn h.1))
    clear hYES hNO hRP hGA hGB hSR hSA hSB hIN hLN hLB
    obtain ⟨x0, x1, x2, x3, x4, xf, xl⟩ := FA.out
    obtain ⟨z0, z1, z2, z3, z4, zf, zl⟩ := FB.out
    obtain ⟨y0, y1, y2, y3, y4, yf, yl⟩ := FR.out
    go_wp2
    refine bodyPost_ret (v := .tuple #[.agg #[.string ⟨#[]⟩, .int .i64 0, .string ⟨#[]⟩, .string ⟨#[]⟩, .slice none 0 0], .bool false]) (by simp [results, Tryz.results15, go_sem, y0, y1, y2, y3, y4]) rfl ⟨PutRes.no hr.out, ?_⟩
    exact ((((K0.out.setCell (by show w.heap.size ≤ w.heap.size + 1 + 1; omega) _).setCell (by show w.heap.size ≤ w.heap.size + 1 + 1; omega) _).setCell (by show w.heap.size ≤ w.heap.size + 1 + 1; omega) _).setCell (by show w.heap.size ≤ w.heap.size + 1 + 1; omega) _).setCell (by show w.heap.size ≤ w.heap.size + 1 + 1; omega) _

end Go.Proofs.YtjeefgamkoeiaaaGreatDoor
