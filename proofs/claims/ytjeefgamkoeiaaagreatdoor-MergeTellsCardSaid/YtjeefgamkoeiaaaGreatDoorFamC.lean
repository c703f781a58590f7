/- The walks of slices.SortFunc at points, of package family's ascend. -/
import Derived.Test.YtjeefgamkoeiaaaGreatDoorFamB
import Derived.Test.YtjeefgamkoeiaaaGreatDoorFamLay
import Derived.Test.YtjeefgamkoeiaaaGreatDoorKSort
import Derived.Test.YtjeefgamkoeiaaaGreatDoorPointW
set_option maxRecDepth 100000
set_option linter.unusedVariables false
set_option linter.unusedSimpArgs false
namespace Go.Proofs.YtjeefgamkoeiaaaGreatDoor
open Go.RowKit Go.Sort Dc
attribute [local go_sem ↓] Go.wp_at_zero Go.wp_at_succ

theorem swo_tp {α : Type} {f : α → α → Int} (h : TP f) : SWO (ltOf f) where
  irrefl x := by unfold ltOf; rw [h.refl]; rfl
  trans x y z h1 h2 := by
    unfold ltOf at *
    have := of_decide_eq_true h2
    exact decide_eq_true (h.lt (of_decide_eq_true h1) (by omega))
  ntrans x y z h1 h2 := by
    unfold ltOf at *
    have h1 := of_decide_eq_false h1
    have h2 := of_decide_eq_false h2
    apply decide_eq_false
    have := h.le z y x (by rw [h.neg]; omega) (by rw [h.neg]; omega)
    rw [h.neg] at this; omega
theorem sub_list {α : Type} {p : α → Prop} : ∀ (l : List α), (∀ x ∈ l, p x) → ∃ m : List {x // p x}, m.map (·.1) = l
  | [], _ => ⟨[], rfl⟩
  | x :: l, h => by
    obtain ⟨m, rfl⟩ := sub_list l (fun y hy => h y (List.mem_cons_of_mem _ hy))
    exact ⟨⟨x, h x List.mem_cons_self⟩ :: m, rfl⟩

set_option maxHeartbeats 2000000 in
theorem psortf_calls (M : List Ps) (g cap base : Nat) (w : World) (hm : PtMine w base (.slice (some ⟨g, 0, none⟩) M.length cap) M) (hn : M.length ≤ 1000) :
    Calls Tryz.prog 58 #[.slice (some ⟨g, 0, none⟩) M.length cap, .func (.func 56) #[] #[]] w fun e w' =>
      e = .returned (.tuple #[]) ∧ ∃ D : List Ps, D.Perm M ∧ ((pts D).Pairwise fun p q => ¬ cmpP q p < 0) ∧ (∀ B, B ≤ g → B ≤ w.heap.size → Below B w w') ∧ PtFar w' g (.slice (some ⟨g, 0, none⟩) M.length cap) D := by
  have hfar := hm.far g rfl
  have hall : ∀ x ∈ M, FarLb w g x ∧ PtIn x.2 := fun x hx => ⟨hfar x hx, hm.inn x hx⟩
  obtain ⟨m, hmM⟩ := sub_list M hall
  letI : Inhabited {x : Ps // FarLb w g x ∧ PtIn x.2} := ⟨⟨(.slice none 0 0, ⟨[], 0, false, 0, 0, 0, 0, false, 0⟩), ⟨LbRow.nil w, fun k hk => by cases hk⟩, ⟨by decide, by decide, by decide, by decide, by decide, by decide, fun x hx => by cases hx⟩⟩⟩
  have hlen : m.length = M.length := by rw [← hmM]; simp
  have hcells : m.flatMap (fun x => encP x.1) = M.flatMap encP := by rw [← hmM, List.flatMap_map]
  have hown : KOwn (fun x : {x : Ps // FarLb w g x ∧ PtIn x.2} => encP x.1) 53 9 w base (.slice (some ⟨g, 0, none⟩) m.length cap) m := by
    unfold KOwn
    rw [hcells, hlen]
    exact hm.own
  have eg : ∀ args w, (callFunc 56 args).run Tryz.prog w = .ok (.enter 56 args) w := enters_of Tryz.func56 (by kernel_rfl) rfl
  have hs := ksort sortPt Tryz.isAgg53 Tryz.sizeOf53 (enc := fun x : {x : Ps // FarLb w g x ∧ PtIn x.2} => encP x.1) (k := 9) (fun _ => rfl) (by omega) (fun x v hv => encP_one (w := w) ⟨x.2.1.1, x.2.2⟩ v hv)
    (fun x y => cmpP x.1.2 y.1.2) (swo_tp (tp_cmpP.comap fun x : {x : Ps // FarLb w g x ∧ PtIn x.2} => x.1.2)) 56 eg 53 g cap base m w hown (by omega)
    (fun X ho hz x y => pcompare_calls x.1.1 y.1.1 x.1.2 y.1.2 X (x.2.1.other (fun b hb hg => ho b hb (by omega)) hz).1 (y.2.1.other (fun b hb hg => ho b hb (by omega)) hz).1 x.2.2 y.2.2)
  rw [hlen] at hs
  change Calls Tryz.prog 58 _ _ _ at hs
  refine hs.mono ?_
  rintro e w' ⟨rfl, D, hp, hsd, hbel, hoth, hrow⟩
  refine ⟨rfl, D.map (·.1), by rw [← hmM]; exact hp.map _, ?_, hbel, ?_, rfl, fun x hx => ?_, fun x hx => ?_⟩
  · unfold pts
    rw [List.map_map, List.pairwise_map]
    exact hsd
  · obtain ⟨A, cap', he, h1, h2, h3, h4⟩ := hrow
    refine ⟨A, cap', by rw [List.length_map]; exact he, by rw [List.length_map]; exact h1, h2, h3, fun h0 => ?_⟩
    obtain ⟨b, off, hA, hb, hc⟩ := h4 (by simpa using h0)
    refine ⟨b, off, hA, hb, fun i x hx j u hu => ?_⟩
    rw [List.getElem?_map] at hx
    cases hd : D[i]? with
    | none => rw [hd] at hx; cases hx
    | some y =>
      rw [hd] at hx
      obtain rfl := Option.some.inj hx
      exact hc i y hd j u hu
  · obtain ⟨y, _, rfl⟩ := List.mem_map.1 hx
    have hz : w.heap.size ≤ w'.heap.size := (hbel 0 (Nat.zero_le _) (Nat.zero_le _)).size
    exact y.2.1.other (fun b hb hg => hoth b hb (by omega)) hz
  · obtain ⟨y, _, rfl⟩ := List.mem_map.1 hx
    exact y.2.2

set_option maxHeartbeats 8000000 in
theorem ascend_calls (L : List Ps) (v : Value) (w : World) (hv : PtRow w v L) (hn : L.length ≤ 1000) :
    Calls Tryz.prog 53 #[v] w fun e w' => e = .returned (.bool (decide (StrictP (pts L)))) ∧ Below w.heap.size w w' := by
  have HP := Lib.hid hv.2
  obtain ⟨A, cap, rfl, hlc, hcm, hnil, hrow⟩ := hv.1
  unfold maxLen at hcm
  have HR := Lib.hid hrow
  clear hrow hnil hv
  go_enter Tryz.func53, Tryz.ntmps53
  go_wp2_with fail
  go_loopw [3] (fun v wr => ∃ j : Nat, v = .int .i64 ((j : Int) + 1) ∧ j ≤ L.length ∧ Hid (∀ m p q, m < j → (pts L)[m]? = some p → (pts L)[m + 1]? = some q → cmpP p q < 0) ∧ Below w.heap.size w wr) (fun v _ => L.length + 1 - (intOf v).toNat)
  case atStart => exact ⟨0, rfl, Nat.zero_le _, fun m p q hm => absurd hm (by omega), Below.refl _ _⟩
  case round =>
    obtain ⟨j, rfl, hj, H, hb⟩ := hrel
    by_cases hjl : j + 1 < L.length
    · obtain ⟨b, off, rfl, hbs, hc⟩ := HR.out (by omega)
      obtain ⟨x, hx, hxp⟩ := ps_get (show j < L.length by omega)
      obtain ⟨y, hy, hyp⟩ := ps_get hjl
      have hix := HP.out x (List.mem_of_getElem? hx)
      have hiy := HP.out y (List.mem_of_getElem? hy)
      obtain ⟨c0, c1, c2, c3, c4, c5, c6, c7, c8⟩ := pr_cells hc hx
      obtain ⟨e0, e1, e2, e3, e4, e5, e6, e7, e8⟩ := pr_cells hc hy
      have hcp := Lib.hid (fun W (hW : Below w.heap.size w W) => pcompare_calls x.1 y.1 x.2 y.2 W (hix.1.below hW) (hiy.1.below hW) hix.2 hiy.2)
      have hno := Lib.hid (fun h => strictP_no (l := pts L) (i := j) hxp hyp h)
      have hnx := Lib.hid (fun (h : cmpP x.2 y.2 < 0) => show ∀ m p q, m < j + 1 → (pts L)[m]? = some p → (pts L)[m + 1]? = some q → cmpP p q < 0 from fun m p q hm h1 h2 => by
        by_cases em : m = j
        · subst em
          rw [hxp] at h1
          rw [hyp] at h2
          obtain rfl := Option.some.inj h1
          obtain rfl := Option.some.inj h2
          exact h
        · exact H.out m p q (by omega) h1 h2)
      have hsx := lb_one' hix.1
      obtain ⟨A1, n1, cap1, hx1⟩ : ∃ A1 n1 cap1, x.1 = .slice A1 n1 cap1 := by obtain ⟨_, _, h, _⟩ := hix.1; exact ⟨_, _, _, h⟩
      obtain ⟨A2, n2, cap2, hy1⟩ : ∃ A1 n1 cap1, y.1 = .slice A1 n1 cap1 := by obtain ⟨_, _, h, _⟩ := hiy.1; exact ⟨_, _, _, h⟩
      have hw1 : IntKind.i64.wrap (j : Int) = (j : Int) := IntWalk.i64_in _ (by omega)
      have hw2 : IntKind.i64.wrap ((j : Int) + 1) = (j : Int) + 1 := IntWalk.i64_in _ (by omega)
      have hw3 : (j : Int) + 1 - 1 = (j : Int) := by omega
      have hj0 : (0 : Int) ≤ (j : Int) := by omega
      have hj1 : (j : Int) < (L.length : Int) := by omega
      have hj2 : (j : Int) + 1 < (L.length : Int) := by omega
      have hj3 : j < L.length := by omega
      have hj4 : (0 : Int) ≤ (j : Int) + 1 := by omega
      obtain ⟨xv, p⟩ := x
      obtain ⟨yv, q⟩ := y
      simp only at hx1 hy1
      subst hx1 hy1
      obtain ⟨pl, ro, inf, bm, bs, m, s, td, ti⟩ := p
      obtain ⟨ql, ro2, inf2, bm2, bs2, m2, s2, td2, ti2⟩ := q
      have hR : ∀ o u, w.cell? ⟨b, o, none⟩ = some u → ∀ z, Below w.heap.size w z → z.cell? ⟨b, o, none⟩ = some u := fun o u hu z hz => (hz.cell (p := ⟨b, o, none⟩) hbs).trans hu
      simp only at c0 c1 c2 c3 c4 c5 c6 c7 c8 e0 e1 e2 e3 e4 e5 e6 e7 e8 hno hnx
      have r0 := hR _ _ c0
      have r1 := hR _ _ c1
      have r2 := hR _ _ c2
      have r3 := hR _ _ c3
      have r4 := hR _ _ c4
      have r5 := hR _ _ c5
      have r6 := hR _ _ c6
      have r7 := hR _ _ c7
      have r8 := hR _ _ c8
      have s0 := hR _ _ e0
      have s1 := hR _ _ e1
      have s2' := hR _ _ e2
      have s3 := hR _ _ e3
      have s4 := hR _ _ e4
      have s5 := hR _ _ e5
      have s6 := hR _ _ e6
      have s7 := hR _ _ e7
      have s8 := hR _ _ e8
      have HB := Lib.hid hb
      clear hc c0 c1 c2 c3 c4 c5 c6 c7 c8 e0 e1 e2 e3 e4 e5 e6 e7 e8 hR hx hy hxp hyp hix hiy hbs hsx
      generalize cmpP _ _ = C at *
      by_cases hC : C < 0
      · have dC : decide ((0 : Int) ≤ C) = false := by simp; omega
        have hr := Lib.hid (hnx.out hC)
        clear hno hnx hC
        go_wp2_with fail
        go_region_held3 (fun z => Below w.heap.size w z)
          (((repeat' first | assumption | exact Below.refl _ _ | exact Nat.le_refl _ | apply kp_alloc | apply kp_set | apply Below.drew | omega); done))
          ((first
            | (go_at_call 56; refine (hcp.out _ (by (repeat' first | assumption | apply Below.drew))).mono ?_; rintro e w3 ⟨rfl, b3⟩; have k3 : Below w.heap.size w w3 := (by refine trans9 ?_ b3; (repeat' first | assumption | exact Below.refl _ _ | exact Nat.le_refl _ | apply kp_alloc | apply kp_set | apply Below.drew | omega)))))
        all_goals
          go_wp2_with fail
          go_roundw
          case rel => exact ⟨j + 1, by go_num, by omega, hr.out, k3⟩
          case measure => simp [intOf]; omega
      · have dC : decide ((0 : Int) ≤ C) = true := by simp; omega
        have hr := Lib.hid (decide_eq_false (hno.out hC))
        clear hno hnx hC
        go_wp2_with fail
        go_region_held3 (fun z => Below w.heap.size w z)
          (((repeat' first | assumption | exact Below.refl _ _ | exact Nat.le_refl _ | apply kp_alloc | apply kp_set | apply Below.drew | omega); done))
          ((first
            | (go_at_call 56; refine (hcp.out _ (by (repeat' first | assumption | apply Below.drew))).mono ?_; rintro e w3 ⟨rfl, b3⟩; have k3 : Below w.heap.size w w3 := (by refine trans9 ?_ b3; (repeat' first | assumption | exact Below.refl _ _ | exact Nat.le_refl _ | apply kp_alloc | apply kp_set | apply Below.drew | omega)))))
        all_goals
          go_wp2_with fail
          go_ret
          exact ⟨by rw [hr.out]; rfl, k3⟩
    · have hlen : (pts L).length = L.length := by simp [pts]
      have hs := Lib.hid (decide_eq_true (strictP_adj (l := pts L) (fun i p q h1 h2 => by
        have := (List.getElem?_eq_some_iff.1 h2).1
        exact H.out i p q (by omega) h1 h2)))
      clear H hlen
      go_wp2
      go_ret
      exact ⟨by rw [hs.out]; rfl, hb⟩

end Go.Proofs.YtjeefgamkoeiaaaGreatDoor
