/- The texts FamC, FamA, FamD, one behind the other. -/
import Derived.Test.YtgoibhbmndpgpaaGreatDoorFamX
import Derived.Test.YtgoibhbmndpgpaaGreatDoorChecked
import Derived.Test.YtgoibhbmndpgpaaGreatDoorKRow
import Derived.Test.YtgoibhbmndpgpaaGreatDoorUp
import Derived.Test.YtgoibhbmndpgpaaGreatDoorPointW
import Derived.Shelf.LaySoft

/- The walks of slices.SortFunc at points, of package family's ascend. -/
set_option maxRecDepth 100000
set_option linter.unusedVariables false
set_option linter.unusedSimpArgs false
namespace Go.Proofs.YtgoibhbmndpgpaaGreatDoor
open Go.RowKit Go.Sort Dc
attribute [local go_sem ↓] Go.wp_at_zero Go.wp_at_succ

set_option maxHeartbeats 8000000 in
theorem ascend_calls (L : List Ps) (v : Value) (w : World) (hv : PtRow w v L) (hn : L.length ≤ 1000) :
    Calls Tryz.prog 73 #[v] w fun e w' => e = .returned (.bool (decide (StrictP (pts L)))) ∧ Below w.heap.size w w' := by
  have HP := Lib.hid hv.2
  obtain ⟨A, cap, rfl, hlc, hcm, hnil, hrow⟩ := hv.1
  unfold maxLen at hcm
  have HR := Lib.hid hrow
  clear hrow hnil hv
  go_enter Tryz.func73, Tryz.ntmps73
  go_wp2_with fail
  go_loopw [3] (fun v wr => ∃ j : Nat, v = .int .i64 ((j : Int) + 1) ∧ j ≤ L.length ∧ Hid (∀ m p q, m < j → (pts L)[m]? = some p → (pts L)[m + 1]? = some q → cmpP p q < 0) ∧ Below w.heap.size w wr) (fun v _ => L.length + 1 - (intOf v).toNat)
  case atStart => exact ⟨0, rfl, Nat.zero_le _, fun m p q hm => absurd hm (by omega), Below.refl _ _⟩
  case round =>
    obtain ⟨j, rfl, hj, H, hb⟩ := hrel
    by_cases hjl : j + 1 < L.length
    · obtain ⟨b, off, rfl, hbs, hc⟩ := HR.out (by omega)
      obtain ⟨x, hx, hxp⟩ := ps_get (show j < L.length by omega)
      obtain ⟨y, hy, hyp⟩ := ps_get hjl
      have hix := HP.out x (List.mem_of_getElem? hx)
      have hiy := HP.out y (List.mem_of_getElem? hy)
      obtain ⟨c0, c1, c2, c3, c4, c5, c6, c7, c8⟩ := pr_cells hc hx
      obtain ⟨e0, e1, e2, e3, e4, e5, e6, e7, e8⟩ := pr_cells hc hy
      have hcp := Lib.hid (fun W (hW : Below w.heap.size w W) => pcompare_calls x.1 y.1 x.2 y.2 W (hix.1.below hW) (hiy.1.below hW) hix.2 hiy.2)
      have hno := Lib.hid (fun h => strictP_no (l := pts L) (i := j) hxp hyp h)
      have hnx := Lib.hid (fun (h : cmpP x.2 y.2 < 0) => show ∀ m p q, m < j + 1 → (pts L)[m]? = some p → (pts L)[m + 1]? = some q → cmpP p q < 0 from fun m p q hm h1 h2 => by
        by_cases em : m = j
        · subst em
          rw [hxp] at h1
          rw [hyp] at h2
          obtain rfl := Option.some.inj h1
          obtain rfl := Option.some.inj h2
          exact h
        · exact H.out m p q (by omega) h1 h2)
      have hsx := lb_one' hix.1
      obtain ⟨A1, n1, cap1, hx1⟩ : ∃ A1 n1 cap1, x.1 = .slice A1 n1 cap1 := by obtain ⟨_, _, h, _⟩ := hix.1; exact ⟨_, _, _, h⟩
      obtain ⟨A2, n2, cap2, hy1⟩ : ∃ A1 n1 cap1, y.1 = .slice A1 n1 cap1 := by obtain ⟨_, _, h, _⟩ := hiy.1; exact ⟨_, _, _, h⟩
      have hw1 : IntKind.i64.wrap (j : Int) = (j : Int) := IntWalk.i64_in _ (by omega)
      have hw2 : IntKind.i64.wrap ((j : Int) + 1) = (j : Int) + 1 := IntWalk.i64_in _ (by omega)
      have hw3 : (j : Int) + 1 - 1 = (j : Int) := by omega
      have hj0 : (0 : Int) ≤ (j : Int) := by omega
      have hj1 : (j : Int) < (L.length : Int) := by omega
      have hj2 : (j : Int) + 1 < (L.length : Int) := by omega
      have hj3 : j < L.length := by omega
      have hj4 : (0 : Int) ≤ (j : Int) + 1 := by omega
      obtain ⟨xv, p⟩ := x
      obtain ⟨yv, q⟩ := y
      simp only at hx1 hy1
      subst hx1 hy1
      obtain ⟨pl, ro, inf, bm, bs, m, s, td, ti⟩ := p
      obtain ⟨ql, ro2, inf2, bm2, bs2, m2, s2, td2, ti2⟩ := q
      have hR : ∀ o u, w.cell? ⟨b, o, none⟩ = some u → ∀ z, Below w.heap.size w z → z.cell? ⟨b, o, none⟩ = some u := fun o u hu z hz => (hz.cell (p := ⟨b, o, none⟩) hbs).trans hu
      simp only at c0 c1 c2 c3 c4 c5 c6 c7 c8 e0 e1 e2 e3 e4 e5 e6 e7 e8 hno hnx
      have r0 := hR _ _ c0
      have r1 := hR _ _ c1
      have r2 := hR _ _ c2
      have r3 := hR _ _ c3
      have r4 := hR _ _ c4
      have r5 := hR _ _ c5
      have r6 := hR _ _ c6
      have r7 := hR _ _ c7
      have r8 := hR _ _ c8
      have s0 := hR _ _ e0
      have s1 := hR _ _ e1
      have s2' := hR _ _ e2
      have s3 := hR _ _ e3
      have s4 := hR _ _ e4
      have s5 := hR _ _ e5
      have s6 := hR _ _ e6
      have s7 := hR _ _ e7
      have s8 := hR _ _ e8
      have HB := Lib.hid hb
      clear hc c0 c1 c2 c3 c4 c5 c6 c7 c8 e0 e1 e2 e3 e4 e5 e6 e7 e8 hR hx hy hxp hyp hix hiy hbs hsx
      generalize cmpP _ _ = C at *
      by_cases hC : C < 0
      · have dC : decide ((0 : Int) ≤ C) = false := by simp; omega
        have hr := Lib.hid (hnx.out hC)
        clear hno hnx hC
        go_wp2_with fail
        go_region_held3 (fun z => Below w.heap.size w z)
          (((repeat' first | assumption | exact Below.refl _ _ | exact Nat.le_refl _ | apply kp_alloc | apply kp_set | apply Below.drew | omega); done))
          ((first
            | (go_at_call 93; refine (hcp.out _ (by (repeat' first | assumption | apply Below.drew))).mono ?_; rintro e w3 ⟨rfl, b3⟩; have k3 : Below w.heap.size w w3 := (by refine trans9 ?_ b3; (repeat' first | assumption | exact Below.refl _ _ | exact Nat.le_refl _ | apply kp_alloc | apply kp_set | apply Below.drew | omega)))))
        all_goals
          go_wp2_with fail
          go_roundw
          case rel => exact ⟨j + 1, by go_num, by omega, hr.out, k3⟩
          case measure => simp [intOf]; omega
      · have dC : decide ((0 : Int) ≤ C) = true := by simp; omega
        have hr := Lib.hid (decide_eq_false (hno.out hC))
        clear hno hnx hC
        go_wp2_with fail
        go_region_held3 (fun z => Below w.heap.size w z)
          (((repeat' first | assumption | exact Below.refl _ _ | exact Nat.le_refl _ | apply kp_alloc | apply kp_set | apply Below.drew | omega); done))
          ((first
            | (go_at_call 93; refine (hcp.out _ (by (repeat' first | assumption | apply Below.drew))).mono ?_; rintro e w3 ⟨rfl, b3⟩; have k3 : Below w.heap.size w w3 := (by refine trans9 ?_ b3; (repeat' first | assumption | exact Below.refl _ _ | exact Nat.le_refl _ | apply kp_alloc | apply kp_set | apply Below.drew | omega)))))
        all_goals
          go_wp2_with fail
          go_ret
          exact ⟨by rw [hr.out]; rfl, k3⟩
    · have hlen : (pts L).length = L.length := by simp [pts]
      have hs := Lib.hid (decide_eq_true (strictP_adj (l := pts L) (fun i p q h1 h2 => by
        have := (List.getElem?_eq_some_iff.1 h2).1
        exact H.out i p q (by omega) h1 h2)))
      clear H hlen
      go_wp2
      go_ret
      exact ⟨by rw [hs.out]; rfl, hb⟩

end Go.Proofs.YtgoibhbmndpgpaaGreatDoor

/- The walks of package family's small functions: isKind, Typed, Kind, suffix, Series. -/
set_option maxRecDepth 100000
set_option linter.unusedVariables false
set_option linter.unusedSimpArgs false
namespace Go.Proofs.YtgoibhbmndpgpaaGreatDoor
open Go.RowKit Dc
attribute [local go_sem ↓] Go.wp_at_zero Go.wp_at_succ

theorem iskind_calls (k : Int) (w : World) : Calls Tryz.prog 71 #[.int .i64 k] w fun e w' => e = .returned (.bool (kindOk k)) ∧ w = w' := by
  unfold kindOk
  by_cases h0 : 0 ≤ k
  · have d0 : decide ((0 : Int) ≤ k) = true := decide_eq_true h0
    by_cases h1 : k < 5
    · have d1 : decide (k < 5) = true := decide_eq_true h1
      have hr := Lib.hid (decide_eq_true (show 0 ≤ k ∧ k < 5 from ⟨h0, h1⟩))
      rw [hr.out]
      clear hr
      go_enter Tryz.func71, Tryz.ntmps71
      go_wp2
      go_ret
      exact ⟨rfl, rfl⟩
    · have d1 : decide (k < 5) = false := decide_eq_false h1
      have hr := Lib.hid (decide_eq_false (fun h : 0 ≤ k ∧ k < 5 => h1 h.2))
      rw [hr.out]
      clear hr
      go_enter Tryz.func71, Tryz.ntmps71
      go_wp2
      go_ret
      exact ⟨rfl, rfl⟩
  · have d0 : decide ((0 : Int) ≤ k) = false := decide_eq_false h0
    have hr := Lib.hid (decide_eq_false (fun h : 0 ≤ k ∧ k < 5 => h0 h.1))
    rw [hr.out]
    clear hr
    go_enter Tryz.func71, Tryz.ntmps71
    go_wp2
    go_ret
    exact ⟨rfl, rfl⟩

end Go.Proofs.YtgoibhbmndpgpaaGreatDoor

/- The walk of package family's Sort. -/
set_option maxRecDepth 100000
set_option linter.unusedVariables false
set_option linter.unusedSimpArgs false
namespace Go.Proofs.YtgoibhbmndpgpaaGreatDoor
open Go.RowKit Go.Sort Go.Shelf Dc
attribute [local go_sem ↓] Go.wp_at_zero Go.wp_at_succ

/-- what Sort hands back: z blocks were there ahead of it -/
def SortP (z : Nat) (h : Hd) (l : List Pt) (e : Ending) (w' : World) : Prop :=
  (∃ D v' M, psrt l = some D ∧ pts M = D ∧ e = .returned (.tuple #[famv h v', .bool true]) ∧ PtKeep w' z v' M) ∨ (psrt l = none ∧ e = .returned (.tuple #[famv hd0 (.slice none 0 0), .bool false]))
theorem SortP.no {z : Nat} {h : Hd} {l : List Pt} {e : Ending} {w' : World} (h1 : psrt l = none) (h2 : e = .returned (.tuple #[famv hd0 (.slice none 0 0), .bool false])) : SortP z h l e w' := Or.inr ⟨h1, h2⟩

theorem FamAt.belowB {w w' : World} {b B : Nat} {h : Hd} {v : Value} (k : FamAt w b h v) (hb : Below B w w') (hlt : b < B) : FamAt w' b h v := by
  have e := hb.block b hlt
  exact ⟨(World.cell?_of_block (a := ⟨b, 0, none⟩) e).trans k.c0, (World.cell?_of_block (a := ⟨b, 1, none⟩) e).trans k.c1, (World.cell?_of_block (a := ⟨b, 2, none⟩) e).trans k.c2, (World.cell?_of_block (a := ⟨b, 3, none⟩) e).trans k.c3, (World.cell?_of_block (a := ⟨b, 4, none⟩) e).trans k.c4,
    fun o => (World.frozen?_of_block (a := ⟨b, o, none⟩) e).trans (k.fr o), Nat.lt_of_lt_of_le k.lt hb.size⟩
end Go.Proofs.YtgoibhbmndpgpaaGreatDoor
