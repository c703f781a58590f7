/- The walk of the law LabelSorts. -/
import Derived.Test.YtaloimbffijalaaDoorLabelLawC0
import Derived.Test.YtaloimbffijalaaDoorLabelLawB
import Derived.Test.YtaloimbffijalaaDoorRefLabelE
set_option maxRecDepth 100000
set_option linter.unusedVariables false
set_option linter.unusedSimpArgs false
namespace Go.Proofs.YtaloimbffijalaaDoor
open Go.RowKit Go.Sort
attribute [local go_sem ↓] Go.wp_at_zero Go.wp_at_succ

theorem tmod_lt (c : Int) (n : Nat) (h : 0 ≤ c) (hn : 0 < n) : ∃ k : Nat, k < n ∧ c.tmod (n : Int) = (k : Int) ∧ c % (n : Int) = (k : Int) := by
  have h1 : c.tmod (n : Int) = c % (n : Int) := Int.tmod_eq_emod_of_nonneg h
  have h2 := Int.emod_nonneg c (show (n : Int) ≠ 0 by omega)
  have h3 := Int.emod_lt_of_pos c (show 0 < (n : Int) by omega)
  exact ⟨(c % (n : Int)).toNat, by omega, by omega, by omega⟩
theorem LbRow.drewN {w : World} {v : Value} {l : List Lb} (h : LbRow w v l) (n : Nat) : LbRow (w.drewN n) v l := h
set_option maxHeartbeats 16000000 in
theorem sorts_walk (l : List Lb) (vl : Value) (turn : Int) (w : World) (hl : LbRow w vl l) (hc0 : 0 ≤ turn) (hc1 : turn ≤ 255) (hT : ShapesIn w) :
    Calls Tryd.prog 4 #[vl, .int .u8 turn] w fun e w' => e = .returned (.bool true) ∧ Below w.heap.size w w' := by
  have HL := Lib.hid (fun W (hW : Below w.heap.size w W) => hl.below hW)
  have hk := Lib.hid (known_calls w hT)
  have HL0 := Lib.hid hl
  have hl' := hl
  obtain ⟨A, cap, rfl, hlc, hcm, _, hrow⟩ := hl'
  unfold maxLen at hcm
  have HR := Lib.hid hrow
  clear hT hl hrow
  go_enter Tryd.func4, Tryd.ntmps4
  go_wp2_with fail
  refine hk.out.mono ?_; rintro e w1 ⟨rfl, b1⟩
  have B1 := Lib.hid b1
  clear b1 hk
  go_wp2_with fail
  refine (short_calls l _ w1 (HL.out _ B1.out)).mono ?_; rintro e w2 ⟨hsh, rfl⟩
  rcases hsh.ways with rfl | ⟨rfl, hl20⟩
  · clear hsh
    go_wp2
    go_ret
    exact ⟨rfl, B1.out⟩
  clear hsh
  have hso := Lib.hid (fun W v (h : LbRow W v l) => sort_calls l v W h (by omega))
  have HC : Hid (((srt l).isSome = true ∧ Nd l ∧ ((srt l).getD []).Perm l ∧ StrictS ((srt l).getD []) ∧ srt l = some ((srt l).getD [])) ∨ ((srt l).isSome = false ∧ ¬ Nd l ∧ (srt l).getD [] = [])) := by
    by_cases h : Nd l
    · obtain ⟨d, e, p, q⟩ := srt_yes h
      rw [e]; exact Or.inl ⟨rfl, h, p, q, rfl⟩
    · rw [srt_no h]; exact Or.inr ⟨rfl, h, rfl⟩
  generalize (srt l).isSome = ok at *
  generalize (srt l).getD [] = d at *
  go_wp2_with fail
  refine (hso.out _ _ (HL.out _ B1.out)).mono ?_; rintro e w2 ⟨x1, rfl, b2, r2⟩
  have B2 := Lib.hid (trans9 B1.out b2)
  have R2 := Lib.hid r2
  clear b2 r2 hso
  go_wp2_with fail
  go_loopw [7, 8] (fun t i wr => ∃ m : Nat, m ≤ l.length ∧ i = .int .i64 (m : Nat) ∧ t = .bool (tw l m) ∧ Hid (LbRow wr x1 d) ∧ Below w.heap.size w wr) (fun _ i _ => l.length - (intOf i).toNat)
  case atStart => exact ⟨0, Nat.zero_le _, rfl, rfl, R2, B2.out⟩
  case round =>
    obtain ⟨m, hm, rfl, rfl, R3, hb⟩ := hrel
    by_cases hml : m < l.length
    · have HB3 := Lib.hid hb
      clear hb
      go_wp2_with fail
      generalize wr.heap.size = zz at *
      go_loopw [7, 9] (fun t i wr => ∃ q : Nat, q ≤ m ∧ i = .int .i64 (q : Nat) ∧ t = .bool (tw l m || dupTo l m q) ∧ Hid (LbRow wr x1 d) ∧ Below w.heap.size w wr) (fun _ i _ => m - (intOf i).toNat)
      case atStart => exact ⟨0, Nat.zero_le _, rfl, by rw [dupTo, Bool.or_false], R3, HB3.out⟩
      case round =>
        obtain ⟨q, hq, rfl, rfl, R4, hb⟩ := hrel
        by_cases hqm : q < m
        · obtain ⟨b, off, rfl, hbs, hc⟩ := HR.out (by omega)
          have c0 := (hb.cell (p := ⟨b, off + m * 2, none⟩) hbs).trans (hc m (lbAt l m) (at_get hml)).1
          have c1 := (hb.cell (p := ⟨b, off + q * 2, none⟩) hbs).trans (hc q (lbAt l q) (at_get (by omega))).1
          have hst := Lib.hid (show (tw l m || dupTo l m (q + 1)) = ((tw l m || dupTo l m q) || decide ((lbAt l m).1 = (lbAt l q).1)) by rw [dupTo, Bool.or_assoc])
          generalize lbAt l m = X at *
          generalize lbAt l q = Y at *
          obtain ⟨X1, X2⟩ := X
          obtain ⟨Y1, Y2⟩ := Y
          simp only at c0 c1 hst
          have h0 : (0 : Int) ≤ (m : Int) := by omega
          have h1 : (m : Int) < (l.length : Int) := by omega
          have h2 : (0 : Int) ≤ (q : Int) := by omega
          have h3 : (q : Int) < (l.length : Int) := by omega
          have h4 : q < l.length := by omega
          have HB4 := Lib.hid hb
          clear hc hb
          cases hin : (tw l m || dupTo l m q)
          · by_cases hx : X1 = Y1
            · have heq : (X1 == Y1) = true := beq_iff_eq.2 hx
              have hs2 := Lib.hid (show (tw l m || dupTo l m (q + 1)) = true by rw [hst.out, hin, decide_eq_true hx]; rfl)
              clear hst hx hin
              go_wp2_with fail
              go_quiet (fail)
              go_wp2_with fail
              go_roundw
              case rel => exact ⟨q + 1, hqm, by go_num, by rw [hs2.out], R4.out.drewN _, below_drewN HB4.out _⟩
              case measure => simp [intOf]; omega
            · have heq : (X1 == Y1) = false := beq_eq_false_iff_ne.2 hx
              have hs2 := Lib.hid (show (tw l m || dupTo l m (q + 1)) = false by rw [hst.out, hin, decide_eq_false hx]; rfl)
              clear hst hx hin
              go_wp2_with fail
              go_quiet (fail)
              go_wp2_with fail
              go_roundw
              case rel => exact ⟨q + 1, hqm, by go_num, by rw [hs2.out], R4.out.drewN _, below_drewN HB4.out _⟩
              case measure => simp [intOf]; omega
          · have hs2 := Lib.hid (show (tw l m || dupTo l m (q + 1)) = true by rw [hst.out, hin]; rfl)
            clear hst hin
            go_wp2_with fail
            go_quiet (fail)
            go_wp2_with fail
            go_roundw
            case rel => exact ⟨q + 1, hqm, by go_num, by rw [hs2.out], R4.out.drewN _, below_drewN HB4.out _⟩
            case measure => simp [intOf]; omega
        · obtain rfl : q = m := by omega
          have hs2 := Lib.hid (show tw l (q + 1) = (tw l q || dupTo l q q) from rfl)
          generalize (tw l q || dupTo l q q) = TT at *
          go_wp2_with fail
          go_roundw
          case rel => exact ⟨q + 1, hml, by go_num, by rw [hs2.out], R4.out, hb⟩
          case measure => simp [intOf]; omega
    · obtain rfl : m = l.length := by omega
      rcases HC.out with ⟨rfl, hnd, hdp, hds, hsd⟩ | ⟨rfl, hnd, hd0⟩
      · rw [tw_no hnd]
        have hdl : d.length = l.length := hdp.length_eq
        by_cases hz : l.length = 0
        · have dz : ((l.length : Int) == 0) = true := beq_iff_eq.2 (by omega)
          have dz2 : (l.length == 0) = true := beq_iff_eq.2 hz
          have HZ := Lib.hid hz
          have HB9 := Lib.hid hb
          clear hz hb hdl hdp hds hsd hnd
          go_wp2
          go_ret
          exact ⟨rfl, HB9.out⟩
        · have dz : ((l.length : Int) == 0) = false := beq_eq_false_iff_ne.2 (by omega)
          have dz2 : (l.length == 0) = false := beq_eq_false_iff_ne.2 hz
          have hpos : 0 < l.length := by omega
          obtain ⟨k, hkl, ht1, ht2⟩ := tmod_lt turn l.length hc0 hpos
          have hw2 : IntKind.i64.wrap turn = turn := IntWalk.i64_in _ (by omega)
          have hw3 : IntKind.i64.wrap (k : Int) = (k : Int) := IntWalk.i64_in _ (by omega)
          have hnz : ¬ (l.length : Int) = 0 := by omega
          have hk0 : (0 : Int) ≤ (k : Int) := by omega
          have hk1 : (k : Int) < (l.length : Int) := by omega
          have hk2 : (k : Int) ≤ (l.length : Int) := by omega
          obtain ⟨u1, eq1, row1⟩ := lb_from HL0.out k (by omega)
          obtain ⟨u2, eq2, row2⟩ := lb_to HL0.out k (by omega)
          have HU1 := Lib.hid (fun z (hz : Below wr.heap.size wr z) => row1 z (HL.out z (hb.trans (hz.mono hb.size))))
          have HU2 := Lib.hid (fun z (hz : Below wr.heap.size wr z) => row2 z (HL.out z (hb.trans (hz.mono hb.size))))
          have hs2 := Lib.hid (fun W v (h : LbRow W v (l.drop k ++ l.take k)) => sort_calls _ v W h (by rw [List.length_append, List.length_drop, List.length_take]; omega))
          rw [srt_turn l k, hsd] at hs2
          have hs3 := Lib.hid (fun W v (h : LbRow W v (l ++ [((lbAt l k).1, [109, 111, 114, 101])])) => sort_calls _ v W h (by rw [List.length_append]; simp; omega))
          rw [srt_more l k _ hkl] at hs3
          have hlt0 : ([] : List Lb).length + (l.drop k).length ≤ 2000 := by rw [List.length_drop]; simp; omega
          have hlt1 : (l.drop k).length + (l.take k).length ≤ 2000 := by rw [List.length_drop, List.length_take]; omega
          have hlt2 : ([] : List Lb).length + l.length ≤ 2000 := by simp; omega
          have hlt3 : l.length + ([((lbAt l k).1, [109, 111, 114, 101])] : List Lb).length ≤ 2000 := by simp; omega
          obtain ⟨b, off, rfl, hbs, hcc⟩ := HR.out hpos
          have x0 := (hcc k (lbAt l k) (at_get hkl)).1
          have HX0 := Lib.hid x0
          have hge := Lib.hid (fun W v n (h : LbRow W v l) => get_calls l v n W h)
          have hgm := Lib.hid (fun i (hi : i < d.length) => getL_mem hnd (hdp.mem_iff.1 (at_mem hi)))
          have hst := Lib.hid (fun i (hi : i + 1 < d.length) => strict_at hds (i := i) (j := i + 1) (by omega) hi)
          have HDL := Lib.hid hdl
          generalize (lbAt l k).1 = X1 at *
          have HB9 := Lib.hid hb
          clear row1 row2 hz hb hdp hds hsd hnd hpos hcc x0 hdl
          simp only [Option.isSome_some, Option.isSome_none, Option.getD_some] at hs2 hs3
          go_wp2_with fail
          go_region_held3 (fun z => Below wr.heap.size wr z)
            (((repeat' first | assumption | exact Below.refl _ _ | exact Nat.le_refl _ | apply kp_alloc | apply kp_set | apply Below.drew | omega); done))
            ((first
              | (refine step_append_row (by rfl) (.const (.slice none 0 0)) (.tmp 80) (by rfl) wr.heap.size _ [] (by rfl) (LbOwn.nil _ _) _ _ (by rfl) (HU1.out _ (by (repeat' first | assumption | exact Below.refl _ _ | exact Nat.le_refl _ | apply kp_alloc | apply kp_set | apply Below.drew | omega))) hlt0 (Below.size (by (repeat' first | assumption | exact Below.refl _ _ | exact Nat.le_refl _ | apply kp_alloc | apply kp_set | apply Below.drew | omega))) ?_; intro v5 w5 o5 g5; have k5 : Below wr.heap.size wr w5 := Below.grown (by (repeat' first | assumption | exact Below.refl _ _ | exact Nat.le_refl _ | apply kp_alloc | apply kp_set | apply Below.drew | omega)) g5 (Below.size (by (repeat' first | assumption | exact Below.refl _ _ | exact Nat.le_refl _ | apply kp_alloc | apply kp_set | apply Below.drew | omega))) (fun q hq => by cases hq))
              | (refine step_append_row (by rfl) (.tmp 81) (.tmp 84) (by rfl) wr.heap.size _ (l.drop k) (by rfl) (by first | exact o5 | exact own_drew o5) _ (l.take k) (by rfl) (HU2.out _ (by (repeat' first | assumption | exact Below.refl _ _ | exact Nat.le_refl _ | apply kp_alloc | apply kp_set | apply Below.drew | omega))) hlt1 (Below.size (by (repeat' first | assumption | exact Below.refl _ _ | exact Nat.le_refl _ | apply kp_alloc | apply kp_set | apply Below.drew | omega))) ?_; intro v6 w6 o6 g6; have k6 : Below wr.heap.size wr w6 := Below.grown (by (repeat' first | assumption | exact Below.refl _ _ | exact Nat.le_refl _ | apply kp_alloc | apply kp_set | apply Below.drew | omega)) g6 (Below.size (by (repeat' first | assumption | exact Below.refl _ _ | exact Nat.le_refl _ | apply kp_alloc | apply kp_set | apply Below.drew | omega))) (fun q hq => own_ge o5 q hq))
              | (go_at_call 9; refine (hs2.out _ _ (LbOwn.row (by first | exact o6 | exact own_drew o6))).mono ?_; rintro e w7 ⟨x2, rfl, b7, r7⟩; have k7 : Below wr.heap.size wr w7 := (by refine trans9 ?_ b7; (repeat' first | assumption | exact Below.refl _ _ | exact Nat.le_refl _ | apply kp_alloc | apply kp_set | apply Below.drew | omega)))))
          have B7 := Lib.hid (HB9.out.trans (k7.mono HB9.out.size))
          have R7 := Lib.hid (R3.out.below k7)
          have S7 := Lib.hid r7
          clear k5 k6 k7 b7 r7 o5 o6 g5 g6
          have hbz : b < w7.heap.size := Nat.lt_of_lt_of_le hbs B7.out.size
          have r0 : ∀ z, Below w7.heap.size w7 z → z.cell? ⟨b, off + k * 2, none⟩ = some (.string (str X1)) := fun z hz => (hz.cell hbz).trans ((B7.out.cell hbs).trans HX0.out)
          have HU3 := Lib.hid (fun z (hz : Below w7.heap.size w7 z) => HL.out z (B7.out.trans (hz.mono B7.out.size)))
          clear hbz
          go_wp2_with fail
          go_region_held3 (fun z => Below w7.heap.size w7 z)
            (((repeat' first | assumption | exact Below.refl _ _ | exact Nat.le_refl _ | apply kp_alloc | apply kp_set | apply Below.drew | omega); done))
            ((first
              | (refine step_append_row (by rfl) (.const (.slice none 0 0)) (.tmp 90) (by rfl) w7.heap.size _ [] (by rfl) (LbOwn.nil _ _) _ _ (by rfl) (HU3.out _ (by (repeat' first | assumption | exact Below.refl _ _ | exact Nat.le_refl _ | apply kp_alloc | apply kp_set | apply Below.drew | omega))) hlt2 (Below.size (by (repeat' first | assumption | exact Below.refl _ _ | exact Nat.le_refl _ | apply kp_alloc | apply kp_set | apply Below.drew | omega))) ?_; intro v5 w5 o5 g5; have k5 : Below w7.heap.size w7 w5 := Below.grown (by (repeat' first | assumption | exact Below.refl _ _ | exact Nat.le_refl _ | apply kp_alloc | apply kp_set | apply Below.drew | omega)) g5 (Below.size (by (repeat' first | assumption | exact Below.refl _ _ | exact Nat.le_refl _ | apply kp_alloc | apply kp_set | apply Below.drew | omega))) (fun q hq => by cases hq); obtain ⟨c5, f5⟩ := bcell (Below.grown (Below.refl _ _) g5 (Nat.le_refl _) (fun q hq => by cases hq)); have z5 := g5.size; (try simp at z5))
              | (refine step_append_row (by rfl) (.tmp 91) (.tmp 98) (by rfl) w7.heap.size _ l (by rfl) (by first | exact o5 | exact own_alloc o5 _ | exact own_drew o5 | exact own_drew (own_alloc o5 _)) _ [(X1, [109, 111, 114, 101])] (by rfl) (lb_one (by first | (simp; done) | omega) (by first | (simp; done) | (go_simp; done)) (by first | (simp; done) | (go_simp; done))) hlt3 (Below.size (by (repeat' first | assumption | exact Below.refl _ _ | exact Nat.le_refl _ | apply kp_alloc | apply kp_set | apply Below.drew | omega))) ?_; intro v6 w6 o6 g6; have k6 : Below w7.heap.size w7 w6 := Below.grown (by (repeat' first | assumption | exact Below.refl _ _ | exact Nat.le_refl _ | apply kp_alloc | apply kp_set | apply Below.drew | omega)) g6 (Below.size (by (repeat' first | assumption | exact Below.refl _ _ | exact Nat.le_refl _ | apply kp_alloc | apply kp_set | apply Below.drew | omega))) (fun q hq => own_ge o5 q hq))
              | (go_at_call 9; refine (hs3.out _ _ (LbOwn.row (by first | exact o6 | exact own_drew o6))).mono ?_; rintro e w8 ⟨x3, rfl, b8, r8⟩; have k8 : Below w7.heap.size w7 w8 := (by refine trans9 ?_ b8; (repeat' first | assumption | exact Below.refl _ _ | exact Nat.le_refl _ | apply kp_alloc | apply kp_set | apply Below.drew | omega)))))
          all_goals
            have B8 := Lib.hid (B7.out.trans (k8.mono B7.out.size))
            have R8 := Lib.hid (R7.out.below k8)
            have S8 := Lib.hid (S7.out.below k8)
            clear k5 k6 k8 b8 r8 o5 o6 g5 g6 c5 f5 z5 r0
            have hdl := HDL.out
            obtain ⟨A1, cap1, hx1, hlc1, hcm1, _, hr1⟩ := R8.out
            obtain ⟨A2, cap2, hx2, hlc2, hcm2, _, hr2⟩ := S8.out
            rw [hdl] at hx1 hx2 hlc1 hlc2 hr1 hr2
            subst hx1 hx2
            unfold maxLen at hcm1 hcm2
            have HR1 := Lib.hid hr1
            have HR2 := Lib.hid hr2
            clear hr1 hr2 hdl
            go_wp2_with fail
            go_loopw [15] (fun i wi => ∃ j : Nat, j ≤ l.length ∧ i = .int .i64 (j : Nat) ∧ Below w8.heap.size w8 wi) (fun i _ => l.length - (intOf i).toNat)
            case atStart => exact ⟨0, Nat.zero_le _, rfl, Below.refl _ _⟩
            case round =>
              obtain ⟨j, hj, rfl, hb⟩ := hrel
              by_cases hjd : j < l.length
              · obtain ⟨ba, oa, rfl, hba, hca⟩ := HR1.out (by omega)
                obtain ⟨bb, ob, rfl, hbb, hcb⟩ := HR2.out (by omega)
                have hjD : j < d.length := by have := HDL.out; omega
                obtain ⟨a0, a1⟩ := hca j (lbAt d j) (at_get hjD)
                obtain ⟨e0, e1⟩ := hcb j (lbAt d j) (at_get hjD)
                have a0 := (hb.cell (p := ⟨ba, oa + j * 2, none⟩) hba).trans a0
                have a1 := (hb.cell (p := ⟨ba, oa + j * 2 + 1, none⟩) hba).trans a1
                have e0 := (hb.cell (p := ⟨bb, ob + j * 2, none⟩) hbb).trans e0
                have e1 := (hb.cell (p := ⟨bb, ob + j * 2 + 1, none⟩) hbb).trans e1
                have hg := hgm.out j hjD
                have hprev := Lib.hid (fun i (hi : j = i + 1) => And.intro ((hb.cell (p := ⟨ba, oa + i * 2, none⟩) hba).trans (hca i (lbAt d i) (at_get (by omega))).1) (show cb (lbAt d i).1 (lbAt d j).1 < 0 by subst hi; exact hst.out i hjD))
                have hne := fun W => neq_self (lbAt d j).1 (lbAt d j).2 W
                have HGE := Lib.hid (fun W => hge.out W (.slice (some ⟨b, off, none⟩) l.length cap) (lbAt d j).1)
                rw [hg] at HGE
                have HBB := Lib.hid hb
                have HLW := Lib.hid (fun n => HL.out (wr.drewN n) (below_drewN (B8.out.trans (hb.mono B8.out.size)) n))
                have hbr : ba < wr.heap.size := Nat.lt_of_lt_of_le hba hb.size
                generalize lbAt d j = Z at *
                obtain ⟨Z1, Z2⟩ := Z
                simp only at a0 a1 e0 e1 hprev hne HGE
                clear hca hcb hg hb
                by_cases hj0 : j = 0
                · obtain rfl := hj0
                  simp only [Nat.zero_mul, Nat.add_zero] at a0 a1 e0 e1
                  clear hprev
                  rw [show ((0 : Nat) : Int) = 0 from rfl]
                  go_wp2_with fail
                  go_quiet (fail)
                  go_wp2_with fail
                  refine (HGE.out _ (HLW.out _)).mono ?_; rintro e w9 ⟨rfl, b9⟩
                  have a2 : w9.cell? ⟨ba, oa + 1, none⟩ = some (.string (str Z2)) := (b9.cell (p := ⟨ba, oa + 1, none⟩) hbr).trans a1
                  have kB := HBB.out.trans ((below_drewN (Below.refl _ _) nq |>.trans (b9.mono (Nat.le_refl _))).mono HBB.out.size)
                  clear b9
                  go_wp2_with fail
                  go_roundw
                  case rel => exact ⟨1, hjd, by go_num, kB⟩
                  case measure => simp [intOf]; omega
                · obtain ⟨i, hi⟩ : ∃ i, j = i + 1 := ⟨j - 1, by omega⟩
                  obtain ⟨y0, hlt⟩ := hprev.out i hi
                  have hbl := bl_cb (lbAt d i).1 Z1
                  rw [decide_eq_true hlt] at hbl
                  generalize lbAt d i = Y at *
                  obtain ⟨Y1, Y2⟩ := Y
                  simp only at y0 hbl
                  have dk : decide ((0 : Int) < (j : Int)) = true := by simp; omega
                  have dk2 : decide (0 < j) = true := by simp; omega
                  have hkj : (j : Int) - 1 = (i : Int) := by omega
                  have hw1 : IntKind.i64.wrap (i : Int) = (i : Int) := IntWalk.i64_in _ (by omega)
                  have hi0 : (0 : Int) ≤ (i : Int) := by omega
                  have hi1 : (i : Int) < (l.length : Int) := by omega
                  have hjj0 : (0 : Int) ≤ (j : Int) := by omega
                  have hjj1 : (j : Int) < (l.length : Int) := by omega
                  have hil : i < l.length := by omega
                  clear hprev hi hlt
                  go_wp2_with fail
                  go_quiet (fail)
                  go_wp2_with fail
                  refine (HGE.out _ (HLW.out _)).mono ?_; rintro e w9 ⟨rfl, b9⟩
                  have a2 : w9.cell? ⟨ba, oa + j * 2 + 1, none⟩ = some (.string (str Z2)) := (b9.cell (p := ⟨ba, oa + j * 2 + 1, none⟩) hbr).trans a1
                  have kB := HBB.out.trans ((below_drewN (Below.refl _ _) nq |>.trans (b9.mono (Nat.le_refl _))).mono HBB.out.size)
                  clear b9
                  go_wp2_with fail
                  go_roundw
                  case rel => exact ⟨j + 1, hjd, by go_num, kB⟩
                  case measure => simp [intOf]; omega
              · have hB := Lib.hid (B8.out.trans (hb.mono B8.out.size))
                go_wp2
                go_ret
                exact ⟨rfl, hB.out⟩
      · rw [tw_yes hnd]
        subst hd0
        obtain ⟨A1, cap1, rfl, _, _, _, _⟩ := R3.out
        have HB9 := Lib.hid hb
        clear hb hnd
        go_wp2
        go_ret
        exact ⟨rfl, HB9.out⟩

end Go.Proofs.YtaloimbffijalaaDoor
