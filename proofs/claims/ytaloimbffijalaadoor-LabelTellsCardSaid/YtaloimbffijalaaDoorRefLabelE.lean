/- The reference's SortLabels. -/
import Derived.Test.YtaloimbffijalaaDoorRefLabelB
import Derived.Test.YtaloimbffijalaaDoorLabelCut
import Derived.Test.YtaloimbffijalaaDoorLabelE
set_option maxRecDepth 100000
set_option linter.unusedVariables false
set_option linter.unusedSimpArgs false
namespace Go.Proofs.YtaloimbffijalaaDoor
open Go.RowKit Go.Sort
attribute [local go_sem ↓] Go.wp_at_zero Go.wp_at_succ

theorem mem_take {R : List Lb} {k : Nat} {x : Lb} (h : x ∈ R.take k) : ∃ j, j < k ∧ j < R.length ∧ x = lbAt R j := by
  obtain ⟨j, hj, e⟩ := List.mem_iff_getElem.1 h
  rw [List.length_take] at hj
  refine ⟨j, by omega, by omega, ?_⟩
  rw [← e, List.getElem_take, lbAt_of (by omega)]
theorem mem_drop {R : List Lb} {k : Nat} {x : Lb} (h : x ∈ R.drop k) : ∃ j, k ≤ j ∧ j < R.length ∧ x = lbAt R j := by
  obtain ⟨j, hj, e⟩ := List.mem_iff_getElem.1 h
  rw [List.length_drop] at hj
  refine ⟨k + j, by omega, by omega, ?_⟩
  rw [← e, List.getElem_drop, lbAt_of (by omega)]
theorem ins_strict {R : List Lb} {X : Lb} {k : Nat} (hs : StrictS R) (lo : ∀ j, j < k → j < R.length → cb (lbAt R j).1 X.1 < 0) (hi : ∀ j, k ≤ j → j < R.length → cb X.1 (lbAt R j).1 < 0) : StrictS (R.take k ++ [X] ++ R.drop k) := by
  unfold StrictS at hs ⊢
  have hcut := hs
  rw [← List.take_append_drop k R, List.pairwise_append] at hcut
  rw [List.pairwise_append, List.pairwise_append]
  refine ⟨⟨hcut.1, List.pairwise_singleton _ _, fun a ha c hc => ?_⟩, hcut.2.1, fun a ha c hc => ?_⟩
  · obtain rfl := List.mem_singleton.1 hc
    obtain ⟨j, h1, h2, rfl⟩ := mem_take ha
    exact lo j h1 h2
  · rcases List.mem_append.1 ha with ha | ha
    · exact hcut.2.2 a ha c hc
    · obtain rfl := List.mem_singleton.1 ha
      obtain ⟨j, h1, h2, rfl⟩ := mem_drop hc
      exact hi j h1 h2
theorem strict_at {R : List Lb} (hs : StrictS R) {i j : Nat} (h : i < j) (hj : j < R.length) : cb (lbAt R i).1 (lbAt R j).1 < 0 := by
  unfold StrictS at hs
  rw [List.pairwise_iff_getElem] at hs
  rw [lbAt_of (by omega), lbAt_of hj]
  exact hs i j (by omega) hj h
theorem lo_of {R : List Lb} {X : Lb} {j : Nat} (hs : StrictS R) (hj : j < R.length) (h : cb (lbAt R j).1 X.1 < 0) : ∀ i, i < j + 1 → i < R.length → cb (lbAt R i).1 X.1 < 0 := fun i hi hl => by
  by_cases e : i = j
  · subst e; exact h
  · exact cb_trans _ _ _ (strict_at hs (by omega) hj) h
theorem ins_perm {R l : List Lb} {X : Lb} {i : Nat} (k : Nat) (hp : R.Perm (l.take i)) (hi : i < l.length) (hX : lbAt l i = X) : (R.take k ++ [X] ++ R.drop k).Perm (l.take (i + 1)) := by
  rw [List.take_succ_eq_append_getElem hi, ← lbAt_of hi, hX]
  have h1 : (R.take k ++ [X] ++ R.drop k).Perm (R ++ [X]) := by
    rw [List.append_assoc]
    have h2 : (R.take k ++ ([X] ++ R.drop k)).Perm (R.take k ++ (R.drop k ++ [X])) := (List.perm_append_comm).append_left _
    rwa [← List.append_assoc, ← List.append_assoc, List.take_append_drop, List.append_assoc] at h2
  exact h1.trans (hp.append_right _)
theorem nd_dup {R l : List Lb} {i j : Nat} (hp : R.Perm (l.take i)) (hi : i < l.length) (hj : j < R.length) (e : cb (lbAt R j).1 (lbAt l i).1 = 0) : ¬ Nd l := by
  intro n
  unfold Nd at n
  rw [List.nodup_iff_pairwise_ne, List.pairwise_map, List.pairwise_iff_getElem] at n
  obtain ⟨m, hm, hml, em⟩ := mem_take (hp.mem_iff.1 (at_mem hj))
  have := n m i hml hi hm
  rw [← lbAt_of hml, ← lbAt_of hi, ← em] at this
  exact this (cb_eq _ _ e)
theorem bgtr (a b : List UInt8) : (!(Op.bytesLess a b || a == b)) = decide (0 < cb a b) := by
  rw [bl_cb]
  rcases cb_range a b with h | h | h
  · rw [h]; rfl
  · rw [h, beq_iff_eq.2 (cb_eq a b h)]; rfl
  · have e : (a == b) = false := beq_eq_false_iff_ne.2 (fun e => by rw [e, cb_refl] at h; exact absurd h (by decide))
    rw [h, e]; rfl
theorem own_drewN9 {w : World} {base : Nat} {v : Value} {l : List Lb} (h : LbOwn w base v l) (n : Nat) : LbOwn (w.drewN n) base v l := h
set_option maxHeartbeats 16000000 in
theorem rsort_calls (l : List Lb) (v : Value) (w : World) (hv : LbRow w v l) (hn : l.length ≤ 500) :
    Calls Tryd.prog 10 #[v] w fun e w' => ∃ v', e = .returned (.tuple #[v', .bool (srt l).isSome]) ∧ Below w.heap.size w w' ∧ LbRow w' v' ((srt l).getD []) := by
  obtain ⟨A, cap, rfl, hlc, hcm, hnil, hrow⟩ := hv
  unfold maxLen at hcm
  have HR := Lib.hid hrow
  clear hrow hnil
  go_enter Tryd.func10, Tryd.ntmps10
  go_wp2_with fail
  go_loopw [4, 5] (fun q i wr => ∃ (k : Nat) (p : Value) (R : List Lb), p = q ∧ k ≤ l.length ∧ i = .int .i64 (k : Nat) ∧ Hid (R.Perm (l.take k)) ∧ Hid (StrictS R) ∧ Hid (LbOwn wr w.heap.size p R) ∧ Below w.heap.size w wr) (fun _ i _ => l.length - (intOf i).toNat)
  case atStart => exact ⟨0, _, [], rfl, Nat.zero_le _, rfl, List.Perm.refl _, List.Pairwise.nil, LbOwn.nil _ _, Below.refl _ _⟩
  case round =>
    obtain ⟨k, p, R, rfl, hk, rfl, HPm, HSt, H, hb⟩ := hrel
    have hRk : Hid (R.length = k) := by have := HPm.out.length_eq; rw [List.length_take] at this; show _ = _; omega
    obtain ⟨A2, cap2, rfl, hlc2, hcm2, _, hr2⟩ := LbOwn.row H.out
    unfold maxLen at hcm2
    by_cases hkl : k < l.length
    · obtain ⟨b, off, rfl, hbs, hc⟩ := HR.out (by omega)
      obtain ⟨c0, c1⟩ := hc k (lbAt l k) (at_get hkl)
      have hdup := Lib.hid (fun j hj e => srt_no (nd_dup (j := j) HPm.out hkl hj e))
      obtain ⟨⟨X1, X2⟩, hXX⟩ : ∃ X, lbAt l k = X := ⟨_, rfl⟩
      rw [hXX] at c0 c1 hdup
      have hX := Lib.hid hXX
      clear hXX
      simp only at c0 c1 hdup
      have HC0 := Lib.hid c0
      have HC1 := Lib.hid c1
      have HB0 := Lib.hid hb
      have hk0 : (0 : Int) ≤ (k : Int) := by omega
      have hkb : (k : Int) < (l.length : Int) := by omega
      have HR2 := Lib.hid hr2
      clear c0 c1 hb hc hr2
      go_wp2_with fail
      generalize wr.heap.size = zz at *
      go_loopw [6] (fun i wi => ∃ m : Nat, m ≤ R.length ∧ i = .int .i64 (m : Nat) ∧ Hid (∀ j, m ≤ j → j < R.length → cb X1 (lbAt R j).1 < 0) ∧ Hid (LbOwn wi w.heap.size (.slice A2 R.length cap2) R) ∧ Below w.heap.size w wi) (fun i _ => (intOf i).toNat)
      case atStart => exact ⟨R.length, Nat.le_refl _, rfl, fun j h1 h2 => absurd h2 (by omega), H, HB0.out⟩
      case round =>
        obtain ⟨m, hm, rfl, H3, H2, hb⟩ := hrel
        have x0 := (hb.cell (p := ⟨b, off + k * 2, none⟩) hbs).trans HC0.out
        have x1 := (hb.cell (p := ⟨b, off + k * 2 + 1, none⟩) hbs).trans HC1.out
        by_cases hm0 : m = 0
        · obtain rfl := hm0
          rw [show ((0 : Nat) : Int) = 0 from rfl]
          have e0 := below_drewN hb 0
          clear hdup
          go_wp2_with fail
          go_quiet (fail)
          have hb1 := below_drewN hb nq
          have H21 := Lib.hid (own_drewN9 H2.out nq)
          have x01 : (wr.drewN nq).cell? ⟨b, off + k * 2, none⟩ = some (.string (str X1)) := x0
          have x11 : (wr.drewN nq).cell? ⟨b, off + k * 2 + 1, none⟩ = some (.string (str X2)) := x1
          clear hb x0 x1 H2 e0
          generalize wr.drewN nq = W1 at *
          go_wp2_with fail
          go_quiet (fail)
          have hb := below_drewN hb1 nq
          have H2 := Lib.hid (own_drewN9 H21.out nq)
          have x0 : (W1.drewN nq).cell? ⟨b, off + k * 2, none⟩ = some (.string (str X1)) := x01
          have x1 : (W1.drewN nq).cell? ⟨b, off + k * 2 + 1, none⟩ = some (.string (str X2)) := x11
          clear hb1 x01 x11 H21
          generalize W1.drewN nq = wr at *
          have HRo := LbOwn.row H2.out
          obtain ⟨u1, eq1, row1⟩ := lb_to HRo 0 hm
          obtain ⟨u2, eq2, row2⟩ := lb_from HRo 0 hm
          simp only [show ((0 : Nat) : Int) = 0 from rfl] at eq1 eq2
          have HTO := Lib.hid (fun z (hz : Below wr.heap.size wr z) => row1 z (HRo.below hz))
          have HFR := Lib.hid (fun z (hz : Below wr.heap.size wr z) => row2 z (HRo.below hz))
          have hbz : b < wr.heap.size := Nat.lt_of_lt_of_le hbs hb.size
          have r0 : ∀ z, Below wr.heap.size wr z → z.cell? ⟨b, off + k * 2, none⟩ = some (.string (str X1)) := fun z hz => (hz.cell hbz).trans x0
          have r1 : ∀ z, Below wr.heap.size wr z → z.cell? ⟨b, off + k * 2 + 1, none⟩ = some (.string (str X2)) := fun z hz => (hz.cell hbz).trans x1
          have hns := Lib.hid (show StrictS (R.take 0 ++ [(X1, X2)] ++ R.drop 0) from ins_strict HSt.out (fun j h1 _ => absurd h1 (by omega)) H3.out)
          have hnp := Lib.hid (ins_perm 0 HPm.out hkl hX.out)
          have hlt1 : (R.take 0).length + ([(X1, X2)] : List Lb).length ≤ 2000 := by have := hRk.out; rw [List.length_take]; simp
          have hlt2 : (R.take 0 ++ [(X1, X2)]).length + (R.drop 0).length ≤ 2000 := by have := hRk.out; rw [List.length_append, List.length_take, List.length_drop]; simp; omega
          have hlt0 : ([] : List Lb).length + (R.take 0).length ≤ 2000 := by have := hRk.out; rw [List.length_take]; simp
          have hzz := hb.size
          have HB := Lib.hid hb
          clear row1 row2 HRo x0 x1 hbz hb H3
          go_wp2_with fail
          go_region_held3 (fun z => Below wr.heap.size wr z)
            (((repeat' first | assumption | exact Below.refl _ _ | exact Nat.le_refl _ | apply kp_alloc | apply kp_set | apply Below.drew | omega); done))
            ((first
              | (refine step_append_row (by rfl) (.const (.slice none 0 0)) (.tmp 51) (by rfl) wr.heap.size _ [] (by rfl) (LbOwn.nil _ _) _ _ (by rfl) (HTO.out _ (by (repeat' first | assumption | exact Below.refl _ _ | exact Nat.le_refl _ | apply kp_alloc | apply kp_set | apply Below.drew | omega))) hlt0 (Below.size (by (repeat' first | assumption | exact Below.refl _ _ | exact Nat.le_refl _ | apply kp_alloc | apply kp_set | apply Below.drew | omega))) ?_; intro v5 w5 o5 g5; have k5 : Below wr.heap.size wr w5 := Below.grown (by (repeat' first | assumption | exact Below.refl _ _ | exact Nat.le_refl _ | apply kp_alloc | apply kp_set | apply Below.drew | omega)) g5 (Below.size (by (repeat' first | assumption | exact Below.refl _ _ | exact Nat.le_refl _ | apply kp_alloc | apply kp_set | apply Below.drew | omega))) (fun q hq => by cases hq); obtain ⟨c5, f5⟩ := bcell (Below.grown (Below.refl _ _) g5 (Nat.le_refl _) (fun q hq => by cases hq)); have z5 := g5.size; (try simp at z5))
              | (refine step_append_row (by rfl) (.tmp 52) (.tmp 57) (by rfl) wr.heap.size _ (R.take 0) (by rfl) (by first | exact o5 | exact own_alloc o5 _ | exact own_drew o5 | exact own_drew (own_alloc o5 _)) _ [(X1, X2)] (by rfl) (lb_one (by first | (simp; done) | omega | fail "SIZE") (by first | (simp; done) | (go_simp; done) | fail "CELL0") (by first | (simp; done) | (go_simp; done) | fail "CELL1")) hlt1 (Below.size (by (repeat' first | assumption | exact Below.refl _ _ | exact Nat.le_refl _ | apply kp_alloc | apply kp_set | apply Below.drew | omega))) ?_; intro v6 w6 o6 g6; have k6 : Below wr.heap.size wr w6 := Below.grown (by (repeat' first | assumption | exact Below.refl _ _ | exact Nat.le_refl _ | apply kp_alloc | apply kp_set | apply Below.drew | omega)) g6 (Below.size (by (repeat' first | assumption | exact Below.refl _ _ | exact Nat.le_refl _ | apply kp_alloc | apply kp_set | apply Below.drew | omega))) (fun q hq => own_ge o5 q hq))
              | (refine step_append_row (by rfl) (.tmp 58) (.tmp 61) (by rfl) wr.heap.size _ (R.take 0 ++ [(X1, X2)]) (by rfl) (by first | exact o6 | exact own_drew o6) _ (R.drop 0) (by rfl) (HFR.out _ (by (repeat' first | assumption | exact Below.refl _ _ | exact Nat.le_refl _ | apply kp_alloc | apply kp_set | apply Below.drew | omega))) hlt2 (Below.size (by (repeat' first | assumption | exact Below.refl _ _ | exact Nat.le_refl _ | apply kp_alloc | apply kp_set | apply Below.drew | omega))) ?_; intro v7 w7 o7 g7; have k7 : Below wr.heap.size wr w7 := Below.grown (by (repeat' first | assumption | exact Below.refl _ _ | exact Nat.le_refl _ | apply kp_alloc | apply kp_set | apply Below.drew | omega)) g7 (Below.size (by (repeat' first | assumption | exact Below.refl _ _ | exact Nat.le_refl _ | apply kp_alloc | apply kp_set | apply Below.drew | omega))) (fun q hq => own_ge o6 q hq))))
          all_goals
            go_wp2_with fail
            go_roundw
            case rel => exact ⟨k + 1, _, _, rfl, hkl, by go_num, hnp.out, hns.out, own_mono o7 hzz, HB.out.trans (k7.mono hzz)⟩
            case measure => simp [intOf]; omega
        · obtain ⟨j, hj⟩ : ∃ j, m = j + 1 := ⟨m - 1, by omega⟩
          have hjR : j < R.length := by omega
          have dm : decide ((0 : Int) < (m : Int)) = true := by simp; omega
          have dm2 : decide (0 < m) = true := by simp; omega
          have hmj : (m : Int) - 1 = (j : Int) := by omega
          have hw1 : IntKind.i64.wrap (j : Int) = (j : Int) := IntWalk.i64_in _ (by omega)
          have hj0 : (0 : Int) ≤ (j : Int) := by omega
          have hj1 : (j : Int) < (R.length : Int) := by omega
          have hjk : (j : Int) < (k : Int) := by have := hRk.out; omega
          obtain ⟨A3, cap3, he3, _, _, _, hr3⟩ := LbOwn.row H2.out
          simp only [Value.slice.injEq] at he3
          obtain ⟨hA3, hq3, hc3⟩ := he3
          subst hA3 hc3
          clear hq3
          obtain ⟨g2, off2, rfl, hg2, hcc⟩ := hr3 (by omega)
          have y0 := (hcc j (lbAt R j) (at_get hjR)).1
          have hbl := bl_cb (lbAt R j).1 X1
          have hd2 := Lib.hid (hdup.out j hjR)
          have hY : Hid (lbAt R j = lbAt R j) := rfl
          generalize hYY : lbAt R j = Y at y0 hbl hd2
          have HYY := Lib.hid hYY
          clear hYY hY
          obtain ⟨Y1, Y2⟩ := Y
          simp only at y0 hbl hd2
          clear hcc hr3
          have Hj := Lib.hid hj
          clear hj
          by_cases hC : 0 < cb Y1 X1
          · rw [decide_eq_false (show ¬ cb Y1 X1 < 0 by omega)] at hbl
            have heq : (Y1 == X1) = false := beq_eq_false_iff_ne.2 (fun e => by rw [(cb_zero _ _).2 e] at hC; exact absurd hC (by decide))
            have hn3 := Lib.hid (show ∀ i, j ≤ i → i < R.length → cb X1 (lbAt R i).1 < 0 from fun i h1 h2 => by
              by_cases e : i = j
              · subst e; rw [HYY.out, cb_neg]; simp only; omega
              · exact H3.out i (by omega) h2)
            have HB := Lib.hid hb
            clear hC hb hd2
            go_wp2_with fail
            go_quiet (fail)
            go_wp2_with fail
            go_roundw
            case rel => exact ⟨j, by have := Hj.out; omega, by go_num, hn3.out, H2.out, below_drewN HB.out _⟩
            case measure => have := Hj.out; simp [intOf]; omega
          · by_cases hC0 : cb Y1 X1 = 0
            · rw [decide_eq_false (show ¬ cb Y1 X1 < 0 by omega)] at hbl
              have heq : (Y1 == X1) = true := beq_iff_eq.2 (cb_eq _ _ hC0)
              have hr := Lib.hid (hd2.out hC0)
              clear hC hC0 hd2
              go_wp2_with fail
              go_quiet (fail)
              have hb1 := below_drewN hb nq
              have x01 : (wr.drewN nq).cell? ⟨b, off + k * 2, none⟩ = some (.string (str X1)) := x0
              have y01 : (wr.drewN nq).cell? ⟨g2, off2 + j * 2, none⟩ = some (.string (str Y1)) := y0
              clear hb x0 x1 y0 H2
              generalize wr.drewN nq = W1 at *
              go_wp2_with fail
              go_quiet (fail)
              go_wp2_with fail
              go_ret2
              exact ⟨_, by rw [hr.out]; rfl, below_drewN hb1 _, by rw [hr.out]; exact LbRow.nil _⟩
            · rw [decide_eq_true (show cb Y1 X1 < 0 by rcases cb_range Y1 X1 with q | q | q <;> omega)] at hbl
              have heq : (Y1 == X1) = false := beq_eq_false_iff_ne.2 (fun e => hC0 ((cb_zero _ _).2 e))
              have hlo := Lib.hid (lo_of (X := (X1, X2)) (j := j) HSt.out hjR (by rw [HYY.out]; simp only; rcases cb_range Y1 X1 with q | q | q <;> omega))
              clear hC hC0 hd2
              go_wp2_with fail
              go_quiet (fail)
              have hb1 := below_drewN hb nq
              have H21 := Lib.hid (own_drewN9 H2.out nq)
              have x01 : (wr.drewN nq).cell? ⟨b, off + k * 2, none⟩ = some (.string (str X1)) := x0
              have x11 : (wr.drewN nq).cell? ⟨b, off + k * 2 + 1, none⟩ = some (.string (str X2)) := x1
              have y01 : (wr.drewN nq).cell? ⟨g2, off2 + j * 2, none⟩ = some (.string (str Y1)) := y0
              clear hb x0 x1 y0 H2
              generalize wr.drewN nq = W1 at *
              go_wp2_with fail
              go_quiet (fail)
              have hb := below_drewN hb1 nq
              have H2 := Lib.hid (own_drewN9 H21.out nq)
              have x0 : (W1.drewN nq).cell? ⟨b, off + k * 2, none⟩ = some (.string (str X1)) := x01
              have x1 : (W1.drewN nq).cell? ⟨b, off + k * 2 + 1, none⟩ = some (.string (str X2)) := x11
              clear hb1 x01 x11 H21 y01
              generalize W1.drewN nq = wr at *
              have HRo := LbOwn.row H2.out
              obtain ⟨u1, eq1, row1⟩ := lb_to HRo m hm
              obtain ⟨u2, eq2, row2⟩ := lb_from HRo m hm
              have HTO := Lib.hid (fun z (hz : Below wr.heap.size wr z) => row1 z (HRo.below hz))
              have HFR := Lib.hid (fun z (hz : Below wr.heap.size wr z) => row2 z (HRo.below hz))
              have hbz : b < wr.heap.size := Nat.lt_of_lt_of_le hbs hb.size
              have r0 : ∀ z, Below wr.heap.size wr z → z.cell? ⟨b, off + k * 2, none⟩ = some (.string (str X1)) := fun z hz => (hz.cell hbz).trans x0
              have r1 : ∀ z, Below wr.heap.size wr z → z.cell? ⟨b, off + k * 2 + 1, none⟩ = some (.string (str X2)) := fun z hz => (hz.cell hbz).trans x1
              have hns := Lib.hid (show StrictS (R.take m ++ [(X1, X2)] ++ R.drop m) from ins_strict HSt.out (by rw [Hj.out]; exact hlo.out) H3.out)
              have hnp := Lib.hid (ins_perm m HPm.out hkl hX.out)
              have hlt1 : (R.take m).length + ([(X1, X2)] : List Lb).length ≤ 2000 := by have := hRk.out; rw [List.length_take]; simp; omega
              have hlt2 : (R.take m ++ [(X1, X2)]).length + (R.drop m).length ≤ 2000 := by have := hRk.out; rw [List.length_append, List.length_take, List.length_drop]; simp; omega
              have hlt0 : ([] : List Lb).length + (R.take m).length ≤ 2000 := by have := hRk.out; rw [List.length_take]; simp; omega
              have hzz := hb.size
              have HB := Lib.hid hb
              clear row1 row2 HRo x0 x1 hbz hb H3
              go_wp2_with fail
              go_region_held3 (fun z => Below wr.heap.size wr z)
                (((repeat' first | assumption | exact Below.refl _ _ | exact Nat.le_refl _ | apply kp_alloc | apply kp_set | apply Below.drew | omega); done))
                ((first
                  | (refine step_append_row (by rfl) (.const (.slice none 0 0)) (.tmp 51) (by rfl) wr.heap.size _ [] (by rfl) (LbOwn.nil _ _) _ _ (by rfl) (HTO.out _ (by (repeat' first | assumption | exact Below.refl _ _ | exact Nat.le_refl _ | apply kp_alloc | apply kp_set | apply Below.drew | omega))) hlt0 (Below.size (by (repeat' first | assumption | exact Below.refl _ _ | exact Nat.le_refl _ | apply kp_alloc | apply kp_set | apply Below.drew | omega))) ?_; intro v5 w5 o5 g5; have k5 : Below wr.heap.size wr w5 := Below.grown (by (repeat' first | assumption | exact Below.refl _ _ | exact Nat.le_refl _ | apply kp_alloc | apply kp_set | apply Below.drew | omega)) g5 (Below.size (by (repeat' first | assumption | exact Below.refl _ _ | exact Nat.le_refl _ | apply kp_alloc | apply kp_set | apply Below.drew | omega))) (fun q hq => by cases hq); obtain ⟨c5, f5⟩ := bcell (Below.grown (Below.refl _ _) g5 (Nat.le_refl _) (fun q hq => by cases hq)); have z5 := g5.size; (try simp at z5))
                  | (refine step_append_row (by rfl) (.tmp 52) (.tmp 57) (by rfl) wr.heap.size _ (R.take m) (by rfl) (by first | exact o5 | exact own_alloc o5 _ | exact own_drew o5 | exact own_drew (own_alloc o5 _)) _ [(X1, X2)] (by rfl) (lb_one (by first | (simp; done) | omega | fail "SIZE") (by first | (simp; done) | (go_simp; done) | fail "CELL0") (by first | (simp; done) | (go_simp; done) | fail "CELL1")) hlt1 (Below.size (by (repeat' first | assumption | exact Below.refl _ _ | exact Nat.le_refl _ | apply kp_alloc | apply kp_set | apply Below.drew | omega))) ?_; intro v6 w6 o6 g6; have k6 : Below wr.heap.size wr w6 := Below.grown (by (repeat' first | assumption | exact Below.refl _ _ | exact Nat.le_refl _ | apply kp_alloc | apply kp_set | apply Below.drew | omega)) g6 (Below.size (by (repeat' first | assumption | exact Below.refl _ _ | exact Nat.le_refl _ | apply kp_alloc | apply kp_set | apply Below.drew | omega))) (fun q hq => own_ge o5 q hq))
                  | (refine step_append_row (by rfl) (.tmp 58) (.tmp 61) (by rfl) wr.heap.size _ (R.take m ++ [(X1, X2)]) (by rfl) (by first | exact o6 | exact own_drew o6) _ (R.drop m) (by rfl) (HFR.out _ (by (repeat' first | assumption | exact Below.refl _ _ | exact Nat.le_refl _ | apply kp_alloc | apply kp_set | apply Below.drew | omega))) hlt2 (Below.size (by (repeat' first | assumption | exact Below.refl _ _ | exact Nat.le_refl _ | apply kp_alloc | apply kp_set | apply Below.drew | omega))) ?_; intro v7 w7 o7 g7; have k7 : Below wr.heap.size wr w7 := Below.grown (by (repeat' first | assumption | exact Below.refl _ _ | exact Nat.le_refl _ | apply kp_alloc | apply kp_set | apply Below.drew | omega)) g7 (Below.size (by (repeat' first | assumption | exact Below.refl _ _ | exact Nat.le_refl _ | apply kp_alloc | apply kp_set | apply Below.drew | omega))) (fun q hq => own_ge o6 q hq))))
              all_goals
                go_wp2_with fail
                go_roundw
                case rel => exact ⟨k + 1, _, _, rfl, hkl, by go_num, hnp.out, hns.out, own_mono o7 hzz, HB.out.trans (k7.mono hzz)⟩
                case measure => simp [intOf]; omega
    · have hr := Lib.hid (srt_is (l := l) (d := R) (by have := HPm.out; rwa [List.take_of_length_le (by omega)] at this) HSt.out)
      have hown := Lib.hid (LbOwn.row H.out)
      go_wp2
      go_ret2
      exact ⟨_, by rw [hr.out]; rfl, hb, by rw [hr.out]; exact hown.out⟩

end Go.Proofs.YtaloimbffijalaaDoor
