/- The walk of package label's Sort. -/
import Derived.Test.YtaloimbffijalaaDoorLabelE
import Derived.Test.YtaloimbffijalaaDoorLabelB
import Derived.Shelf.SlSortCmp.NoneTotal
set_option maxRecDepth 100000
set_option linter.unusedVariables false
set_option linter.unusedSimpArgs false
namespace Go.Proofs.YtaloimbffijalaaDoor
open Go.RowKit Go.Sort Go.Shelf
attribute [local go_sem ↓] Go.wp_at_zero Go.wp_at_succ

theorem sortf_none (w : World) (fv : Value) :
    Calls Tryd.prog 25 #[.slice none 0 0, fv] w fun e w' => e = .returned (.tuple #[]) ∧ w' = w :=
  AnyF.slices_SortFunc_none sortLb none 0 fv w
set_option maxHeartbeats 4000000 in
theorem sort_calls (l : List Lb) (v : Value) (w : World) (hv : LbRow w v l) (hn : l.length ≤ 1000) :
    Calls Tryd.prog 9 #[v] w fun e w' => ∃ v', e = .returned (.tuple #[v', .bool (srt l).isSome]) ∧ Below w.heap.size w w' ∧ LbRow w' v' ((srt l).getD []) := by
  have hcl := Lib.hid (clone_calls l v w hv hn)
  clear hv
  go_enter Tryd.func9, Tryd.ntmps9
  go_wp2_with fail
  refine hcl.out.mono ?_
  rintro e w1 ⟨v1, rfl, b1, own⟩
  have hown := Lib.hid own
  rcases own.2 with ⟨rfl, h0⟩ | ⟨g, cap, cur, rfl, hg, _⟩
  · obtain rfl : l = [] := List.eq_nil_of_length_eq_zero h0
    have e : srt ([] : List Lb) = some [] := srt_is (List.Perm.refl _) List.Pairwise.nil
    have B1 := Lib.hid b1
    have E := Lib.hid e
    clear own e b1
    go_wp2_with fail
    refine (sortf_none _ _).mono ?_
    rintro e w2 ⟨rfl, rfl⟩
    go_wp2
    refine wp_loop_rounds 1 ?_
    rw [rounds_succ]
    go_wp2
    go_ret2
    exact ⟨_, by rw [E.out]; rfl, B1.out, by rw [E.out]; exact LbRow.nil _⟩
  · have hsf := Lib.hid (sortf_calls l g cap w.heap.size w1 own hn)
    clear own
    go_wp2_with fail
    refine hsf.out.mono ?_
    rintro e w2 ⟨rfl, D, hperm, hasc, hbel, hrow⟩
    have hlen : D.length = l.length := hperm.length_eq
    have hB2 : Below w.heap.size w w2 := b1.trans (hbel _ hg b1.size)
    have HB2 := Lib.hid hB2
    have HR := Lib.hid hrow
    have HA := Lib.hid hasc
    have HP := Lib.hid hperm
    obtain ⟨A, cap2, he, hlc, hcm, _, hr⟩ := hrow
    simp only [Value.slice.injEq] at he
    obtain ⟨hA, hll, hc⟩ := he
    clear hll
    subst hA hc
    unfold maxLen at hcm
    have hD : Hid (0 < D.length → g < w2.heap.size ∧ ∀ i, i < D.length → w2.cell? ⟨g, i * 2, none⟩ = some (.string (str (lbAt D i).1)) ∧ w2.cell? ⟨g, i * 2 + 1, none⟩ = some (.string (str (lbAt D i).2))) := by
      intro h
      obtain ⟨b, off, hbo, hlt, hcc⟩ := hr h
      cases hbo
      exact ⟨hlt, fun i hi => by have := hcc i _ (at_get hi); simpa using this⟩
    clear hperm hasc hbel hr hB2 b1 hlc
    go_wp2_with fail
    go_loopw [5] (fun v wr => ∃ j : Nat, v = .int .i64 ((j : Int) + 1) ∧ j ≤ l.length ∧ Hid (∀ m, m < j → m + 1 < D.length → cb (lbAt D m).1 (lbAt D (m + 1)).1 ≠ 0) ∧ Below w2.heap.size w2 wr) (fun v _ => l.length + 1 - (intOf v).toNat)
    case atStart => exact ⟨0, rfl, Nat.zero_le _, fun m hm => absurd hm (by omega), Below.refl _ _⟩
    case round =>
      obtain ⟨j, rfl, hj, H, hb⟩ := hrel
      by_cases hjl : j + 1 < l.length
      · have hjD : j + 1 < D.length := by omega
        obtain ⟨hlt, hcc⟩ := hD.out (by omega)
        obtain ⟨c0, c1⟩ := hcc j (by omega)
        obtain ⟨c2, c3⟩ := hcc (j + 1) hjD
        have hbn := Lib.hid (fun W => byname_calls (lbAt D j) (lbAt D (j + 1)) W)
        have hno := Lib.hid (fun h => srt_no (l := l) (fun n => dup_of_adj (D := D) (j := j) hjD h ((nd_perm HP.out).2 n)))
        have hnx := Lib.hid (fun (h : cb (lbAt D j).1 (lbAt D (j + 1)).1 ≠ 0) => show ∀ m, m < j + 1 → m + 1 < D.length → cb (lbAt D m).1 (lbAt D (m + 1)).1 ≠ 0 from fun m hm hmD => by
          by_cases e : m = j
          · subst e; exact h
          · exact H.out m (by omega) hmD)
        have hw1 : IntKind.i64.wrap (j : Int) = (j : Int) := IntWalk.i64_in _ (by omega)
        have hw2 : IntKind.i64.wrap ((j : Int) + 1) = (j : Int) + 1 := IntWalk.i64_in _ (by omega)
        have hw3 : (j : Int) + 1 - 1 = (j : Int) := by omega
        have hj0 : (0 : Int) ≤ (j : Int) := by omega
        have hj1 : (j : Int) < (l.length : Int) := by omega
        have hj2 : (j : Int) + 1 < (l.length : Int) := by omega
        have hj3 : j < l.length := by omega
        have hj4 : (0 : Int) ≤ (j : Int) + 1 := by omega
        have hgr : g < wr.heap.size := Nat.lt_of_lt_of_le hlt hb.size
        have r0 : ∀ z, Below wr.heap.size wr z → z.cell? ⟨g, j * 2, none⟩ = some (.string (str (lbAt D j).1)) := fun z hz => (hz.cell hgr).trans ((hb.cell hlt).trans c0)
        have r1 : ∀ z, Below wr.heap.size wr z → z.cell? ⟨g, j * 2 + 1, none⟩ = some (.string (str (lbAt D j).2)) := fun z hz => (hz.cell hgr).trans ((hb.cell hlt).trans c1)
        have r2 : ∀ z, Below wr.heap.size wr z → z.cell? ⟨g, (j + 1) * 2, none⟩ = some (.string (str (lbAt D (j + 1)).1)) := fun z hz => (hz.cell hgr).trans ((hb.cell hlt).trans c2)
        have r3 : ∀ z, Below wr.heap.size wr z → z.cell? ⟨g, (j + 1) * 2 + 1, none⟩ = some (.string (str (lbAt D (j + 1)).2)) := fun z hz => (hz.cell hgr).trans ((hb.cell hlt).trans c3)
        generalize lbAt D j = X at *
        generalize lbAt D (j + 1) = Y at *
        obtain ⟨X1, X2⟩ := X
        obtain ⟨Y1, Y2⟩ := Y
        simp only at r0 r1 r2 r3 hbn hno hnx
        have HB := Lib.hid hb
        clear hcc c0 c1 c2 c3 hgr hb hlt
        by_cases hC : cb X1 Y1 = 0
        · have hr := Lib.hid (hno.out hC)
          rw [hC] at hbn
          clear hno hnx hC
          go_wp2_with fail
          go_region_held3 (fun z => Below wr.heap.size wr z)
            (((repeat' first | assumption | exact Below.refl _ _ | exact Nat.le_refl _ | apply kp_alloc | apply kp_set | apply Below.drew | omega); done))
            ((first
              | (go_at_call 26; refine (hbn.out _).mono ?_; rintro e w3 ⟨rfl, b3⟩; have k3 : Below wr.heap.size wr w3 := (by refine trans9 ?_ b3; (repeat' first | assumption | exact Below.refl _ _ | exact Nat.le_refl _ | apply kp_alloc | apply kp_set | apply Below.drew | omega)))))
          all_goals
            go_wp2_with fail
            go_ret2
            refine ⟨_, by rw [hr.out]; rfl, (HB2.out.trans (HB.out.mono HB2.out.size)).trans (k3.mono (Nat.le_trans HB2.out.size HB.out.size)), by rw [hr.out]; exact LbRow.nil _⟩
        · have hCb : (cb X1 Y1 == 0) = false := by simpa using hC
          have hx := Lib.hid (hnx.out hC)
          generalize cb X1 Y1 = C at *
          clear hno hnx
          go_wp2_with fail
          go_region_held3 (fun z => Below wr.heap.size wr z)
            (((repeat' first | assumption | exact Below.refl _ _ | exact Nat.le_refl _ | apply kp_alloc | apply kp_set | apply Below.drew | omega); done))
            ((first
              | (go_at_call 26; refine (hbn.out _).mono ?_; rintro e w3 ⟨rfl, b3⟩; have k3 : Below wr.heap.size wr w3 := (by refine trans9 ?_ b3; (repeat' first | assumption | exact Below.refl _ _ | exact Nat.le_refl _ | apply kp_alloc | apply kp_set | apply Below.drew | omega)))))
          all_goals
            go_wp2_with fail
            go_roundw
            case rel => exact ⟨j + 1, by go_num, by omega, hx.out, HB.out.trans (k3.mono HB.out.size)⟩
            case measure => simp [intOf]; omega
      · have hs := Lib.hid (strict_of_adj HA.out (fun m hm => H.out m (by omega) hm))
        have hr := Lib.hid (srt_is HP.out hs.out)
        go_wp2
        go_ret2
        refine ⟨_, by rw [hr.out]; rfl, HB2.out.trans (hb.mono HB2.out.size), by rw [hr.out]; exact (HR.out).below hb⟩

end Go.Proofs.YtaloimbffijalaaDoor
